/- freegroup.Check, reduced, inverse, checkBoth. -/
import Derived.Test.YtbckgomidoelaaaSketchReduce
namespace Go.Proofs.Ytbckgomidoelaaa
set_option linter.unusedVariables false
set_option linter.unusedSimpArgs false
open Go.RowKit

set_option maxHeartbeats 1000000 in
theorem fcheck_any (A : Option Addr) (n c : Nat) (xs : List Int) (w : World) (ha : IL w A n xs) :
    Calls Try.prog 15 #[.slice A n c] w fun e w' => e = .returned (.int .i64 (ffault xs)) ∧ w = w' := by
  have hl := ha.len
  have hns := ha.small
  have HA := hide ha
  have HL := hide hl
  by_cases h60 : 60 < n
  · have HF : Hid (ffault xs = 2) := hide (by unfold ffault; rw [if_pos (by omega)])
    clear ha hl
    go_enter Try.func15, Try.ntmps15
    go_wp2
    go_ret
    rw [HF.out]
    exact ⟨rfl, rfl⟩
  · have HF : Hid (ffault xs = if xs.all okL then 0 else 1) := hide (by unfold ffault; rw [if_neg (by omega)])
    clear ha hl
    go_enter Try.func15, Try.ntmps15
    go_wp2
    go_loop [10] (fun iv => ∃ k : Nat, k ≤ n ∧ iv = .int .i64 k ∧ Hid ((xs.take k).all okL = true)) (fun iv => n - (intOf iv).toNat)
    case atStart => exact ⟨0, Nat.zero_le _, rfl, by rw [List.take_zero]; exact rfl⟩
    case round =>
      obtain ⟨k, hk, rfl, HK⟩ := hrel
      by_cases hlt : k < n
      · obtain ⟨ad, rfl, hcl⟩ := HA.out.at_ hlt
        have HT := hide (all_take_succ (w := xs) (k := k) (by rw [HL.out]; exact hlt))
        have HM : Hid (xs.getD k 0 ∈ xs) := hide (by
          have hkl : k < xs.length := by rw [HL.out]; exact hlt
          rw [show xs.getD k 0 = xs[k] by simp [List.getD, List.getElem?_eq_getElem hkl]]
          exact List.getElem_mem _)
        obtain ⟨x, hx⟩ : ∃ x, xs.getD k 0 = x := ⟨_, rfl⟩
        rw [hx] at hcl HT HM
        clear hx
        by_cases hok : x ≠ 0 ∧ x ≤ 6 ∧ -6 ≤ x
        · have HN : Hid ((xs.take (k + 1)).all okL = true) := hide (by rw [HT.out, HK.out]; simp [okL, hok])
          obtain ⟨h0, h1, h2⟩ := hok
          have hb : (x == 0) = false := by simpa using h0
          clear h0
          go_wp2
          go_round
          case rel => exact ⟨k + 1, by omega, by go_num, HN.out⟩
          case measure => simp [intOf]; omega
        · have HN : Hid (xs.all okL = false) := hide (by
            rw [Bool.eq_false_iff]
            intro h
            have := List.all_eq_true.1 h x HM.out
            exact hok (by simpa [okL] using this))
          rw [HN.out] at HF
          by_cases h0 : x = 0
          · subst h0
            clear hok
            go_wp2
            go_ret
            rw [HF.out]
            exact ⟨rfl, rfl⟩
          · have hb : (x == 0) = false := by simpa using h0
            by_cases h1 : x < -6
            · clear hok h0
              go_wp2
              go_ret
              rw [HF.out]
              exact ⟨rfl, rfl⟩
            · have h2 : 6 < x := by
                rcases Int.lt_or_le 6 x with h | h
                · exact h
                · exact absurd ⟨h0, h, by omega⟩ hok
              clear hok h0
              go_wp2
              go_ret
              rw [HF.out]
              exact ⟨rfl, rfl⟩
      · have HE : Hid (xs.all okL = true) := hide (by
          have := HK.out
          rwa [List.take_of_length_le (by rw [HL.out]; omega)] at this)
        rw [HE.out] at HF
        go_wp2
        go_ret
        rw [HF.out]
        exact ⟨rfl, rfl⟩

/-- Both words. -/
theorem fboth_any (A B : Option Addr) (n c m d : Nat) (xs ys : List Int) (w : World) (ha : IL w A n xs) (hb : IL w B m ys) :
    Calls Try.prog 28 #[.slice A n c, .slice B m d] w fun e w' => e = .returned (.int .i64 (bothE xs ys)) ∧ w = w' := by
  have HA := hide (fcheck_any A n c xs w ha)
  have HB := hide (fcheck_any B m d ys w hb)
  have HE : Hid (bothE xs ys = if ffault xs = 0 then ffault ys else ffault xs) := rfl
  clear ha hb
  go_enter Try.func28, Try.ntmps28
  go_wp2_with fail
  refine HA.out.mono ?_
  rintro e w1 ⟨rfl, rfl⟩
  generalize ffault xs = ex at *
  clear HA
  by_cases h0 : ex = 0
  · subst h0
    go_wp2_with fail
    refine HB.out.mono ?_
    rintro e w1 ⟨rfl, rfl⟩
    go_wp2_with fail
    go_ret
    exact ⟨by rw [HE.out]; exact rfl, rfl⟩
  · have hb : (ex != 0) = true := by simpa using h0
    rw [if_neg h0] at HE
    clear h0
    go_wp2_with fail
    go_ret
    exact ⟨by rw [HE.out]; exact rfl, rfl⟩

set_option maxHeartbeats 1000000 in
theorem finverse_any (A : Option Addr) (n c : Nat) (xs : List Int) (w : World) (ha : IL w A n xs) (hb : ∀ x ∈ xs, -1000 ≤ x ∧ x ≤ 1000) :
    Calls Try.prog 29 #[.slice A n c] w (GivesOwn w (invw xs)) := by
  have hl := ha.len
  have hna := ha.small
  have HA := hide ha
  have HL := hide hl
  have HB := hide hb
  obtain ⟨i0, hi0, hz0, hz1, hz2⟩ := info_parts int_info
  clear ha hl hb
  go_enter Try.func29, Try.ntmps29
  go_wp2_with (at_make; refine wpList_make_full _ rfl _ _ 22 rfl w.heap.size 3 i0 (.int .i64 0) 1 Try.underlying22 hi0 hz0 hz1 .i64 .i64 _ _ n rfl rfl rfl rfl (by rw [hz2]; omega) (by unfold maxLen; omega) (Nat.le_refl _) ?_; intro w2 hown2 hg2)
  have hB2 : Below w.heap.size w w2 := (Below.refl _ _).grown hg2 (Nat.le_refl _) (by intro k hk; cases hk)
  have hw2 := OwnI.zero (z := #[]) hown2 (by omega)
  have HW2 : Hid (OwnI w2 w.heap.size (some ⟨w.heap.size, 0, none⟩) n n (oppK xs 0)) := by rw [oppK_zero, HL.out]; exact hw2
  clear hown2 hg2 hw2
  go_loopw [11] (fun iv wr => ∃ k : Nat, k ≤ n ∧ iv = .int .i64 k ∧ OwnI wr w.heap.size (some ⟨w.heap.size, 0, none⟩) n n (oppK xs k) ∧ Below w.heap.size w wr) (fun iv _ => n - (intOf iv).toNat)
  case atStart => exact ⟨0, Nat.zero_le _, rfl, HW2.out, hB2⟩
  case round =>
    clear HW2 hB2
    obtain ⟨k, hk, rfl, ho, hb⟩ := hrel
    by_cases hlt : k < n
    · obtain ⟨ad, rfl, hcl⟩ := (HA.out.below hb).at_ hlt
      have hkl : k < xs.length := by rw [HL.out]; exact hlt
      have hm : xs.getD k 0 ∈ xs := by
        rw [show xs.getD k 0 = xs[k] by simp [List.getD, List.getElem?_eq_getElem hkl]]
        exact List.getElem_mem _
      obtain ⟨hx0, hx1⟩ := HB.out _ hm
      have hp : n - 1 - k < n := by omega
      have hcell := ho.cell hp
      have hfr := ho.frozen (n - 1 - k)
      have hN := ho.set_ (n - 1 - k) (-(xs.getD k 0))
      have hset := oppK_set xs hkl
      rw [HL.out] at hset
      rw [hset] at hN
      have HN := hide hN
      have HB2 := hide (hb.setCell (p := ⟨w.heap.size, n - 1 - k, none⟩) (Nat.le_refl _) (.int .i64 (-(xs.getD k 0))))
      obtain ⟨p, hp'⟩ : ∃ p, n - 1 - k = p := ⟨_, rfl⟩
      rw [hp'] at hp hcell hfr HN HB2
      have hidx : (n : Int) - 1 - (k : Int) = (p : Int) := by omega
      generalize xs.getD k 0 = x at *
      clear hm hN hset ho hb hp'
      go_wp2
      go_roundw
      case rel => exact ⟨k + 1, by omega, by go_num, HN.out, HB2.out⟩
      case measure => simp [intOf]; omega
    · have hkn : k = n := by omega
      have HE : Hid (OwnI wr w.heap.size (some ⟨w.heap.size, 0, none⟩) n n (invw xs)) := by
        rw [← oppK_end, HL.out, ← hkn]
        rw [hkn] at ho ⊢
        exact ho
      clear ho hkn
      go_wp2
      go_ret
      exact ⟨_, _, _, rfl, HE.out, hb⟩
end Go.Proofs.Ytbckgomidoelaaa
