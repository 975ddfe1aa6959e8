/- Several texts in one. -/
import Derived.Test.YtndgffiihbdppaaPart2
import Derived.Test.YtndgffiihbdppaaBase1
import Derived.Test.YtndgffiihbdppaaPart1
import Derived.BigQuiet
import Derived.Deep.DeepCutAuto
import Derived.Test.YtndgffiihbdppaaProg
import Derived.WalkKit
import Derived.Deep.QuietTactic
import Derived.WalkSpells
import Derived.WalkLawsBesides
import Derived.Outline
/- timbref1.Stack. -/
namespace Go.Proofs.Ytndgffiihbdppaa
set_option linter.unusedVariables false
set_option linter.unusedSimpArgs false
open Go.RowKit Go.Maps

theorem points_any (n : Nat) (w : World) (hn : n ≤ 1000000) : Calls Try.prog 37 #[.int .i64 n] w (GivesOwn w (zs (List.range n))) := by
  have HC := hide (row_any n w hn)
  go_enter Try.func37, Try.ntmps37
  go_wp2_with fail
  refine HC.out.mono ?_
  rintro e w1 ⟨A, m, c, rfl, ho, hb⟩
  have HO := hide ho
  have HB := hide hb
  clear ho hb
  go_wp2_with fail
  go_ret
  exact ⟨_, _, _, rfl, HO.out, HB.out⟩

/-! ### how far a stack has come -/
theorem wf_nat {x : Nat} (h : x < 1000000) : (Lit.int .i64 (x : Int)).wf = true := by
  simp [Lit.wf, IntKind.min, IntKind.max, IntKind.signed, IntKind.bits]
  omega
end Go.Proofs.Ytndgffiihbdppaa
/- timbref1.BraidFault, Index, Ends. -/
namespace Go.Proofs.Ytndgffiihbdppaa
set_option linter.unusedVariables false
set_option linter.unusedSimpArgs false
open Go.RowKit

set_option maxHeartbeats 2000000 in
theorem braidFault_any (m : Int) (A : Option Addr) (n c : Nat) (xs : List Int) (w : World) (ha : IL w A n xs) (hm : (Lit.int .i64 m).wf = true) :
    Calls Try.prog 11 #[.int .i64 m, .slice A n c] w fun e w' => e = .returned (.int .i64 (bfault m xs)) ∧ w = w' := by
  have hl := ha.len
  have hns := ha.small
  have HA := hide ha
  have HL := hide hl
  have HM := hide hm
  clear ha hl hm
  by_cases h1 : m < 1
  · have HF : Hid (bfault m xs = 1) := hide (by unfold bfault; rw [if_pos (.inl h1)])
    go_enter Try.func11, Try.ntmps11
    go_wp2
    go_ret
    rw [HF.out]
    exact ⟨rfl, rfl⟩
  by_cases h6 : 6 < m
  · have HF : Hid (bfault m xs = 1) := hide (by unfold bfault; rw [if_pos (.inr h6)])
    go_enter Try.func11, Try.ntmps11
    go_wp2
    go_ret
    rw [HF.out]
    exact ⟨rfl, rfl⟩
  by_cases h30 : 30 < n
  · have HF : Hid (bfault m xs = 2) := hide (by unfold bfault; rw [if_neg (by omega), if_pos (by rw [HL.out]; exact h30)])
    go_enter Try.func11, Try.ntmps11
    go_wp2
    go_ret
    rw [HF.out]
    exact ⟨rfl, rfl⟩
  · have HF : Hid (bfault m xs = if xs.all (okX m) then 0 else 3) := hide (by unfold bfault; rw [if_neg (by omega), if_neg (by rw [HL.out]; exact h30)])
    have hwm : IntKind.i64.wrap (-m) = -m := by rw [IntKind.wrap_i64]; omega
    go_enter Try.func11, Try.ntmps11
    go_wp2
    go_loop [18] (fun iv => ∃ k : Nat, k ≤ n ∧ iv = .int .i64 k ∧ Hid ((xs.take k).all (okX m) = true)) (fun iv => n - (intOf iv).toNat)
    case atStart => exact ⟨0, Nat.zero_le _, rfl, by rw [List.take_zero]; exact rfl⟩
    case round =>
      obtain ⟨k, hk, rfl, HK⟩ := hrel
      by_cases hlt : k < n
      · obtain ⟨ad, rfl, hcl⟩ := HA.out.at_ hlt
        have hkl : k < xs.length := by rw [HL.out]; exact hlt
        have hget : xs.getD k 0 = xs[k] := by simp [List.getD, List.getElem?_eq_getElem hkl]
        have HT : Hid ((xs.take (k + 1)).all (okX m) = ((xs.take k).all (okX m) && okX m (xs.getD k 0))) := hide (by rw [List.take_succ_eq_append_getElem hkl, List.all_append, hget]; simp)
        have HM : Hid (xs.getD k 0 ∈ xs) := hide (by rw [hget]; exact List.getElem_mem _)
        clear hkl hget
        generalize xs.getD k 0 = x at *
        by_cases hok : x ≠ 0 ∧ x < m ∧ -m < x
        · have HN : Hid ((xs.take (k + 1)).all (okX m) = true) := hide (by rw [HT.out, HK.out]; simp [okX, hok])
          obtain ⟨h0, h2, h3⟩ := hok
          have hb : (x == 0) = false := by simpa using h0
          clear h0
          go_wp2
          go_round
          case rel => exact ⟨k + 1, by omega, by go_num, HN.out⟩
          case measure => simp [intOf]; omega
        · have HN : Hid (xs.all (okX m) = false) := hide (by
            rw [Bool.eq_false_iff]
            intro h
            have := List.all_eq_true.1 h x HM.out
            exact hok (by simpa [okX] using this))
          rw [HN.out] at HF
          by_cases h0 : x = 0
          · subst h0
            clear hok
            go_wp2
            go_ret
            rw [HF.out]
            exact ⟨rfl, rfl⟩
          · have hb : (x == 0) = false := by simpa using h0
            by_cases h2 : m ≤ x
            · clear hok h0
              go_wp2
              go_ret
              rw [HF.out]
              exact ⟨rfl, rfl⟩
            · have h3 : x ≤ -m := by
                rcases Int.lt_or_le (-m) x with h | h
                · exact absurd ⟨h0, by omega, h⟩ hok
                · exact h
              clear hok h0
              go_wp2
              go_ret
              rw [HF.out]
              exact ⟨rfl, rfl⟩
      · have HE : Hid (xs.all (okX m) = true) := hide (by
          have := HK.out
          rwa [List.take_of_length_le (by rw [HL.out]; omega)] at this)
        rw [HE.out] at HF
        go_wp2
        go_ret
        rw [HF.out]
        exact ⟨rfl, rfl⟩

set_option maxHeartbeats 1000000 in
theorem index_any_ (x : Int) (w : World) (hx : x.natAbs ≤ 1000000) : Calls Try.prog 47 #[.int .i64 x] w fun e w' => e = .returned (.int .i64 (x.natAbs : Int)) ∧ w = w' := by
  have hw : IntKind.i64.wrap (-x) = -x := by rw [IntKind.wrap_i64]; omega
  by_cases h : 0 ≤ x
  · obtain ⟨a, rfl⟩ : ∃ a : Nat, x = (a : Int) := ⟨x.natAbs, by omega⟩
    rw [Int.natAbs_natCast]
    have hm : max (a : Int) (-(a : Int)) = (a : Int) := by omega
    go_enter Try.func47, Try.ntmps47
    go_wp2
    all_goals first | (exfalso; omega) | (go_ret; exact ⟨rfl, rfl⟩)
  · obtain ⟨a, rfl⟩ : ∃ a : Nat, x = -(a : Int) := ⟨x.natAbs, by omega⟩
    rw [Int.natAbs_neg, Int.natAbs_natCast, Int.neg_neg] at *
    have hm : max (-(a : Int)) (a : Int) = (a : Int) := by omega
    go_enter Try.func47, Try.ntmps47
    go_wp2
    all_goals first | (exfalso; omega) | (go_ret; exact ⟨rfl, rfl⟩)

/-- The ends of the first k strands. -/
def endK (n : Nat) (w : List Int) (k : Nat) : List Int := (List.range n).map fun i => if i < k then ((endE w i : Nat) : Int) else 0
theorem endK_zero (n : Nat) (w : List Int) : endK n w 0 = List.replicate n 0 := by
  unfold endK
  refine List.ext_getElem (by simp) fun i h1 h2 => ?_
  simp
theorem endK_all (n : Nat) (w : List Int) : endK n w n = zs (endsL n w) := by
  unfold endK zs endsL
  rw [List.map_map]
  refine List.map_congr_left fun i hi => ?_
  rw [if_pos (List.mem_range.1 hi)]
  rfl
theorem endK_set {n : Nat} (w : List Int) {k : Nat} (hk : k < n) : (endK n w k).set k ((endE w k : Nat) : Int) = endK n w (k + 1) := by
  unfold endK
  refine List.ext_getElem (by simp) fun i h1 h2 => ?_
  simp only [List.length_map, List.length_range, List.length_set] at h1 h2
  rw [List.getElem_set]
  simp only [List.getElem_map, List.getElem_range]
  by_cases h : k = i
  · subst h; rw [if_pos rfl, if_pos (by omega)]
  · rw [if_neg h]
    by_cases h3 : i < k
    · rw [if_pos h3, if_pos (by omega)]
    · rw [if_neg h3, if_neg (by omega)]
theorem endE_take {w : List Int} {k : Nat} (h : k < w.length) (s : Nat) : endE (w.take (k + 1)) s = stepE (endE (w.take k) s) (w.getD k 0) := by
  rw [List.take_succ_eq_append_getElem h, endE_snoc]
  simp [List.getD, List.getElem?_eq_getElem h]

set_option maxRecDepth 100000 in
set_option maxHeartbeats 4000000 in
theorem ends_any (n : Nat) (A : Option Addr) (l c : Nat) (xs : List Int) (w : World) (ha : IL w A l xs) (hn : n ≤ 1000) (hx : okB n xs) :
    Calls Try.prog 38 #[.int .i64 n, .slice A l c] w (GivesOwn w (zs (endsL n xs))) := by
  have hl := ha.len
  have hna := ha.small
  have HA := hide ha
  have HL := hide hl
  have HX := hide hx
  obtain ⟨i0, hi0, hz0, hz1, hz2⟩ := info_parts int_info
  clear ha hl hx
  go_enter Try.func38, Try.ntmps38
  go_wp2_with (at_make; refine wpList_make_full _ rfl _ _ 22 rfl w.heap.size 3 i0 (.int .i64 0) 1 Try.underlying22 hi0 hz0 hz1 .i64 .i64 _ _ n rfl rfl rfl rfl (by rw [hz2]; omega) (by unfold maxLen; omega) (Nat.le_refl _) ?_; intro w2 hown2 hg2)
  have hB2 : Below w.heap.size w w2 := (Below.refl _ _).grown hg2 (Nat.le_refl _) (by intro k hk; cases hk)
  have hw2 := OwnI.zero (z := #[]) hown2 (by omega)
  have HW2 : Hid (OwnI w2 w.heap.size (some ⟨w.heap.size, 0, none⟩) n n (endK n xs 0)) := by rw [endK_zero]; exact hw2
  have HB2 := hide hB2
  clear hown2 hg2 hw2 hi0 hz0 hz1 hz2 hB2
  go_loopw [13] (fun iv wr => ∃ k : Nat, k ≤ n ∧ iv = .int .i64 k ∧ Hid (OwnI wr w.heap.size (some ⟨w.heap.size, 0, none⟩) n n (endK n xs k)) ∧ Hid (Below w.heap.size w wr)) (fun iv _ => n - (intOf iv).toNat)
  case atStart => exact ⟨0, Nat.zero_le _, rfl, HW2, HB2⟩
  case round =>
    clear HW2 HB2
    obtain ⟨k, hk, rfl, HO, HB⟩ := hrel
    by_cases hlt : k < n
    · have HK := hide hk
      have HLT := hide hlt
      clear hk
      go_wp2_with fail
      go_loop [7, 19] (fun av jv => ∃ (j a : Nat), jv = .int .i64 j ∧ j ≤ l ∧ av = .int .i64 a ∧ a < n ∧ Hid (endE (xs.take j) k = a)) (fun _ jv => l - (intOf jv).toNat)
      case atStart => exact ⟨0, k, rfl, Nat.zero_le _, rfl, hlt, by rw [List.take_zero]; exact rfl⟩
      case round =>
        obtain ⟨j, a, rfl, hj, rfl, han, HE⟩ := hrel
        by_cases hjl : j < l
        · obtain ⟨ad, rfl, hcl⟩ := (HA.out.below HB.out).at_ hjl
          have hkl : j < xs.length := by rw [HL.out]; exact hjl
          have HT := hide (endE_take hkl k)
          rw [HE.out] at HT
          have hxx := HX.out (xs.getD j 0) (by rw [show xs.getD j 0 = xs[j] by simp [List.getD, List.getElem?_eq_getElem hkl]]; exact List.getElem_mem _)
          generalize xs.getD j 0 = x at *
          obtain ⟨hx0, hxn⟩ := hxx
          have HIX := hide (fun (w : World) => index_any_ x w (by omega))
          obtain ⟨q, hq⟩ : ∃ q, x.natAbs = q := ⟨_, rfl⟩
          have hst : stepE a x = if a + 1 = q then a + 1 else if a = q then a - 1 else a := by unfold stepE; rw [hq]
          rw [hq] at HIX hxn
          have hq0 : 0 < q := by omega
          clear hkl hq hx0
          by_cases h1 : a + 1 = q
          · have HN : Hid (endE (xs.take (j + 1)) k = a + 1) := hide (by rw [HT.out, hst, if_pos h1])
            have f1 : ((a : Int) == (q : Int) - 1) = true := by simp; omega
            clear hst HT
            go_wp2_with fail
            refine (HIX.out _).mono ?_
            rintro e w' ⟨rfl, rfl⟩
            go_wp2_with fail
            go_round
            case rel => exact ⟨j + 1, a + 1, by go_num, by omega, by go_num, by omega, HN⟩
            case measure => simp [intOf]; omega
          · have f1 : ((a : Int) == (q : Int) - 1) = false := by simp; omega
            by_cases h2 : a = q
            · have HN : Hid (endE (xs.take (j + 1)) k = a - 1) := hide (by rw [HT.out, hst, if_neg h1, if_pos h2])
              have f2 : ((a : Int) == (q : Int)) = true := by simp; omega
              have ha0 : 0 < a := by omega
              clear hst HT h2
              go_wp2_with fail
              refine (HIX.out _).mono ?_
              rintro e w' ⟨rfl, rfl⟩
              go_wp2_with fail
              refine (HIX.out _).mono ?_
              rintro e w' ⟨rfl, rfl⟩
              go_wp2_with fail
              go_round
              case rel => exact ⟨j + 1, a - 1, by go_num, by omega, by go_num, by omega, HN⟩
              case measure => simp [intOf]; omega
            · have HN : Hid (endE (xs.take (j + 1)) k = a) := hide (by rw [HT.out, hst, if_neg h1, if_neg h2])
              have f2 : ((a : Int) == (q : Int)) = false := by simp; omega
              clear hst HT
              go_wp2_with fail
              refine (HIX.out _).mono ?_
              rintro e w' ⟨rfl, rfl⟩
              go_wp2_with fail
              refine (HIX.out _).mono ?_
              rintro e w' ⟨rfl, rfl⟩
              go_wp2_with fail
              go_round
              case rel => exact ⟨j + 1, a, by go_num, by omega, rfl, by omega, HN⟩
              case measure => simp [intOf]; omega
        · have hjl2 : j = l := by omega
          have HE2 : Hid (endE xs k = a) := hide (by have h := HE.out; rwa [List.take_of_length_le (by rw [HL.out]; omega)] at h)
          have hcell := HO.out.cell HLT.out
          have hfr := HO.out.frozen k
          have hN := HO.out.set_ k ((endE xs k : Nat) : Int)
          rw [endK_set xs HLT.out, HE2.out] at hN
          have HN := hide hN
          have HB2 := hide (HB.out.setCell (p := ⟨w.heap.size, k, none⟩) (Nat.le_refl _) (.int .i64 a))
          clear hN hjl2
          go_wp2_with fail
          go_roundw
          case rel => exact ⟨k + 1, by omega, by go_num, HN, HB2⟩
          case measure => simp [intOf]; omega
    · have hkn : k = n := by omega
      have HR : Hid (OwnI wr w.heap.size (some ⟨w.heap.size, 0, none⟩) n n (zs (endsL n xs))) := hide (by rw [← endK_all, ← hkn]; rw [hkn] at HO ⊢; exact HO.out)
      clear hkn
      go_wp2_with fail
      go_ret
      exact ⟨_, _, _, rfl, HR.out, HB.out⟩
end Go.Proofs.Ytndgffiihbdppaa
/- perm.Check. -/
namespace Go.Proofs.Ytndgffiihbdppaa
set_option linter.unusedVariables false
set_option linter.unusedSimpArgs false
open Go.RowKit

/-- The array 'seen': which of 0 to 8 lie in xs. -/
def seenA (xs : List Int) : Array Value := ((List.range 9).map fun j : Nat => Value.bool (decide ((j : Int) ∈ xs))).toArray
theorem seenA_get (xs : List Int) (j : Nat) (hj : j < 9) : (seenA xs)[j]? = some (.bool (decide ((j : Int) ∈ xs))) := by
  simp [seenA, hj]
theorem seenA_set (xs : List Int) (j : Nat) : (seenA xs).setIfInBounds j (.bool true) = seenA (xs ++ [(j : Int)]) := by
  apply Array.ext_getElem?
  intro i
  by_cases hi : i < 9
  · rw [seenA_get _ i hi, Array.getElem?_setIfInBounds]
    by_cases hij : j = i
    · subst hij
      have : j < (seenA xs).size := by simp [seenA]; omega
      simp [this]
    · rw [if_neg hij, seenA_get _ i hi]
      have : ¬ ((i : Int) = (j : Int)) := by omega
      simp [this]
  · rw [Array.getElem?_eq_none (by simp [seenA]; omega), Array.getElem?_eq_none (by simp [seenA]; omega)]

theorem pf_big {xs : List Int} (h : 9 < xs.length) : pf xs = 2 := by unfold pf; rw [if_pos h]
theorem pf_small {xs : List Int} (h : xs.length ≤ 9) : pf xs = pfGo xs.length [] xs := by unfold pf; rw [if_neg (by omega)]
theorem take_snoc (xs : List Int) (k : Nat) (h : k < xs.length) : xs.take (k + 1) = xs.take k ++ [xs.getD k 0] := by
  rw [List.take_succ_eq_append_getElem h]
  simp [List.getD, List.getElem?_eq_getElem h]

set_option maxHeartbeats 1000000 in
theorem check_any (A : Option Addr) (n c : Nat) (xs : List Int) (w : World) (ha : IL w A n xs) :
    Calls Try.prog 67 #[.slice A n c] w fun e w' => e = .returned (.int .i64 (pf xs)) ∧ Below w.heap.size w w' := by
  have hna := ha.small
  have HL := hide ha.len
  by_cases h9 : 9 < n
  · have HE := hide (pf_big (xs := xs) (by have := HL.out; omega))
    clear ha
    go_enter Try.func67, Try.ntmps67
    go_wp2
    go_ret
    rw [HE.out]
    exact ⟨rfl, Below.refl _ _⟩
  · go_enter Try.func67, Try.ntmps67
    go_wp2
    go_loopw [11] (fun i wr => ∃ k : Nat, k ≤ n ∧ i = .int .i64 k ∧ Hid (pf xs = pfGo xs.length (xs.take k) (xs.drop k)) ∧ Blk wr w.heap.size 77 (seenA (xs.take k)) ∧ Below w.heap.size w wr) (fun i _ => n - (intOf i).toNat)
    case atStart => exact ⟨0, Nat.zero_le _, rfl, pf_small (by have := HL.out; omega), Blk.new _ _ _, (Below.refl _ _).alloc (Nat.le_refl _) _⟩
    case round =>
      obtain ⟨k, hk, rfl, hpf, hblk, hnx⟩ := hrel
      have ha' := ha.below hnx
      by_cases hlt : k < n
      · obtain ⟨ad, rfl, hca⟩ := ha'.at_ hlt
        have HT := hide (take_snoc xs k (by have := HL.out; omega))
        have HP := hide (pf_step (xs := xs) (k := k) (by have := HL.out; omega))
        clear ha ha'
        generalize xs.getD k 0 = x at *
        by_cases h1 : x < 0
        · have HE : Hid (pf xs = 1) := by rw [hpf.out, HP.out, if_pos (.inl h1)]; exact rfl
          go_wp2
          go_ret
          rw [HE.out]
          exact ⟨rfl, hnx⟩
        · by_cases h2 : (n : Int) ≤ x
          · have HE : Hid (pf xs = 1) := by rw [hpf.out, HP.out, if_pos (.inr (by rw [HL.out]; exact h2))]; exact rfl
            go_wp2
            go_ret
            rw [HE.out]
            exact ⟨rfl, hnx⟩
          · obtain ⟨u, rfl⟩ : ∃ u : Nat, x = (u : Int) := ⟨x.toNat, by omega⟩
            have hu9 : u < 9 := by omega
            have hun : u < n := by omega
            have hcell := (hblk.cell u).trans (seenA_get _ u hu9)
            have hfr := hblk.frozen u
            by_cases h3 : (u : Int) ∈ xs.take k
            · have HE : Hid (pf xs = 5) := by rw [hpf.out, HP.out, if_neg (by rw [HL.out]; omega), if_pos h3]; exact rfl
              rw [decide_eq_true h3] at hcell
              clear h3
              go_wp2
              go_ret
              rw [HE.out]
              exact ⟨rfl, hnx⟩
            · have HE : Hid (pf xs = pfGo xs.length (xs.take (k + 1)) (xs.drop (k + 1))) := by rw [hpf.out, HP.out, if_neg (by rw [HL.out]; omega), if_neg h3]; exact rfl
              rw [decide_eq_false h3] at hcell
              clear h3
              go_wp2
              go_roundw
              case rel => exact ⟨k + 1, by omega, by go_num, HE, by rw [HT.out, ← seenA_set]; exact hblk.set_ _ _, hnx.setCell (Nat.le_refl _) _⟩
              case measure => simp [intOf]; omega
      · have HE : Hid (pf xs = 0) := by rw [hpf.out, pf_end xs _ k (by rw [HL.out]; omega)]; exact rfl
        go_wp2
        go_ret
        rw [HE.out]
        exact ⟨rfl, hnx⟩
end Go.Proofs.Ytndgffiihbdppaa
/- Cycles. -/
namespace Go.Proofs.Ytndgffiihbdppaa
set_option linter.unusedVariables false
set_option linter.unusedSimpArgs false
open Go.RowKit

theorem slice_info : (Try.prog.info? 22).map (fun i => (i.zero, i.size, i.bytes)) = some (some (.slice none 0 0), 1, 24) := by kernel_rfl

end Go.Proofs.Ytndgffiihbdppaa
/- timbref1.Parts. -/
namespace Go.Proofs.Ytndgffiihbdppaa
set_option linter.unusedVariables false
set_option linter.unusedSimpArgs false
open Go.RowKit

theorem ownI_far_ {w : World} {base n c : Nat} {A : Option Addr} {xs : List Int} (h : OwnI w base A n c xs) {p : Addr} (hg : p.block < base) (u : Value) : OwnI (w.setCell p u) base A n c xs := by
  refine ⟨⟨h.own.1, ?_⟩, h.small⟩
  rcases h.own.2 with h2 | ⟨b, cap, cur, hv, hb, hh, r⟩
  · exact .inl h2
  · exact .inr ⟨b, cap, cur, hv, hb, (Below.heap_setCell w p u b (by omega)).trans hh, r⟩
theorem ownI_ne_ {w : World} {base n c g : Nat} {A : Option Addr} {xs : List Int} {t : TypeId} {cs : Array Value} (h : OwnI w base A n c xs) (hb : Blk w g t cs) (ht : t ≠ 3) : some g ≠ (Value.slice A n c).ownBlock := by
  intro e
  rcases h.own.2 with ⟨hv, _⟩ | ⟨k, cap, cur, hv, _, hh, _⟩
  · rw [hv] at e; cases e
  · rw [hv] at e
    injection e with e
    subst e
    unfold Blk at hb
    rw [hb] at hh
    simp only [Option.some.injEq, Obj.cells.injEq] at hh
    exact ht hh.2.1
theorem ePts1 : ∀ args w, (callFunc 41 args).run Try.prog w = .ok (.enter 41 args) w := enters (fn := Try.f41) (by kernel_rfl) (by kernel_rfl) (by kernel_rfl)
/-- What the call yields. -/
def GivesPt (w : World) (l : List (List Nat)) (e : Ending) (w' : World) : Prop := ∃ Q q d, e = .returned (.slice Q q d) ∧ ILL w' Q q (zssW l) ∧ Below w.heap.size w w'

set_option maxRecDepth 100000 in
set_option maxHeartbeats 8000000 in
theorem parts_any (N : Nat) (A : Option Addr) (l c : Nat) (xs : List Int) (w : World) (ha : IL w A l xs) (h1 : 1 ≤ N) (hN : N ≤ 1000) (hx : okB N xs) :
    Calls Try.prog 13 #[.int .i64 N, .slice A l c] w (GivesPt w (prtL (endsL N xs))) := by
  obtain ⟨i0, hi0, hz0, hz1, hz2⟩ := info_parts int_info
  have HI0 := hide hi0
  have HY0 := hide hz0
  have HY1 := hide hz1
  have HY2 := hide hz2
  obtain ⟨i1, hj0, hk0, hk1, hk2⟩ := info_parts slice_info
  have HI1 := hide hj0
  have HZ0 := hide hk0
  have HZ1 := hide hk1
  have HZ2 := hide hk2
  have HA := hide ha
  have HX := hide hx
  have HW := hide (Below.refl w.heap.size w)
  have HPA := hide (ends_isP hx)
  clear ha hx hi0 hz0 hz1 hz2 hj0 hk0 hk1 hk2
  go_enter Try.func13, Try.ntmps13
  go_wp2_with fail
  refine (points_any N w (by omega)).mono ?_
  rintro e w1 ⟨G, gn, gc, rfl, ho, hb⟩
  have hgn : N = gn := by have := ho.len; simpa [zs] using this
  subst hgn
  obtain ⟨g, rfl, hg1, hg2⟩ := ho.form (by omega)
  replace HW := hide (HW.out.trans (hb.mono HW.out.size))
  have HO := hide ho
  clear hb ho
  go_upto_region 2 with fail
  have hb : Below w1.heap.size w1 (w1.alloc (.cells #[.slice (some ⟨g, 0, none⟩) N gc] 53)) := (Below.refl _ _).alloc (Nat.le_refl _) _
  have BJ := hide (Blk.new w1 53 #[.slice (some ⟨g, 0, none⟩) N gc])
  replace HO := hide (HO.out.alloc (.cells #[.slice (some ⟨g, 0, none⟩) N gc] 53))
  replace HW := hide (HW.out.trans (hb.mono HW.out.size))
  obtain ⟨gj, hq⟩ : ∃ q, w1.heap.size = q := ⟨_, rfl⟩
  obtain ⟨w2, hw⟩ : ∃ x, w1.alloc (.cells #[.slice (some ⟨g, 0, none⟩) N gc] 53) = x := ⟨_, rfl⟩
  rw [hw] at BJ HW HO ⊢
  rw [hq] at BJ ⊢
  have hgj : g < gj := by omega
  have HAw := hide (HA.out.below HW.out)
  clear hb hq hw hg2
  go_wp2_with fail
  refine (ends_any N A l c xs w2 HAw.out hN HX.out).mono ?_
  rintro e w3 ⟨E, en, ec, rfl, hoe, hb⟩
  have hen : N = en := by have := hoe.len; rw [zs_length, endsL_length] at this; exact this
  subst hen
  have hgj2 := BJ.out.lt
  replace HO := hide ((KeepT.below hb).ownI HO.out)
  replace BJ := hide (BJ.out.below hb hgj2)
  replace HW := hide (HW.out.trans (hb.mono HW.out.size))
  obtain ⟨b2, hb2⟩ : ∃ b, w2.heap.size = b := ⟨_, rfl⟩
  rw [hb2] at hoe hgj2
  have HOE := hide hoe
  clear hoe hb hb2 HAw HA HX
  obtain ⟨a, haa⟩ : ∃ a, endsL N xs = a := ⟨_, rfl⟩
  have hal : a.length = N := by rw [← haa, endsL_length]
  rw [haa] at HOE HPA
  have HAA := hide haa
  clear haa
  have HU0 : Hid (UF (List.range N) (labP a 0)) := hide (by
    have : labP a 0 = List.range N := by unfold labP; rw [List.take_zero, hal]; rfl
    rw [this]
    exact UF.range N)
  have HAL := hide hal
  clear hal
  go_wp2_with fail
  go_loopw [17] (fun iv wr => ∃ (k : Nat) (par : List Nat), iv = .int .i64 k ∧ k ≤ N ∧ Hid (UF par (labP a k)) ∧ Hid (OwnI wr w.heap.size (some ⟨g, 0, none⟩) N gc (zs par)) ∧ Hid (Blk wr gj 53 #[.slice (some ⟨g, 0, none⟩) N gc]) ∧ Hid (OwnI wr b2 E N ec (zs a)) ∧ Hid (Below w.heap.size w wr)) (fun iv _ => N - (intOf iv).toNat)
  case atStart => exact ⟨0, List.range N, by go_num, Nat.zero_le _, HU0, HO, BJ, HOE, HW⟩
  case round =>
    clear HU0 HO BJ HOE HW
    obtain ⟨k, par, rfl, hk, HU, HO, BJ, HOE, HW⟩ := hrel
    by_cases hlt : k < N
    · obtain ⟨ad, rfl, hc⟩ := HOE.out.il.at_ hlt
      rw [zs_getD] at hc
      have hll : (labP a k).length = N := by rw [labP_length]; exact HAL.out
      have hyl : a.getD k 0 < N := by have := HPA.out.lt (j := k) (by rw [HAL.out]; exact hlt); rwa [HAL.out] at this
      obtain ⟨y, hy⟩ : ∃ y, a.getD k 0 = y := ⟨_, rfl⟩
      have HLS : Hid (labP a (k + 1) = Tl.join (labP a k) k y) := hide (by rw [← hy]; exact labP_succ (by rw [HAL.out]; exact hlt))
      rw [hy] at hc hyl
      have HJN := hide (join_any g N gc w.heap.size par _ k y wr HO.out HU.out (by rw [hll]; exact hlt) (by rw [hll]; exact hyl) (by omega))
      have HUF := hide (HU.out.join (x := k) (y := y) (by rw [hll]; exact hlt) (by rw [hll]; exact hyl))
      rw [← HLS.out] at HUF
      have hcj := BJ.out.cell 0
      simp at hcj
      generalize labP a k = lab at *
      clear hy hll HLS HU HO
      go_wp2_with fail
      refine HJN.out.mono ?_
      rintro e4 w4 ⟨rfl, ho4, he4⟩
      have HO4 := hide ho4
      have BJ4 : Hid (Blk w4 gj 53 #[.slice (some ⟨g, 0, none⟩) N gc]) := hide (by rw [he4]; exact BJ.out.far (fun e => by simp at e; omega) _)
      have HOE4 : Hid (OwnI w4 b2 (some ad) N ec (zs a)) := hide (by rw [he4]; exact ownI_far_ HOE.out (by show g < b2; omega) _)
      have HW4 : Hid (Below w.heap.size w w4) := hide (by rw [he4]; exact HW.out.setCell (by show w.heap.size ≤ g; exact hg1) _)
      clear he4 ho4 hc hcj BJ HOE HW HJN
      go_wp2_with fail
      go_roundw
      case rel => exact ⟨k + 1, _, by go_num, by omega, HUF, HO4, BJ4, HOE4, HW4⟩
      case measure => simp [intOf]; omega
    · have HUA : Hid (UF par (labP a a.length)) := hide (by rw [HAL.out, ← show k = N by omega]; exact HU.out)
      clear HU HOE
      rename World => w8
      have hw0 : WR w8 w8.heap.size none 0 0 [] [] := WR.nil_ _ _
      have hgl8 : g < w8.heap.size := by have := BJ.out.lt; omega
      have HLL : Hid ((labP a a.length).length = N) := hide (by rw [labP_length]; exact HAL.out)
      have HSM : Hid (∀ x y, x < N → y < N → (Tl.at_ (labP a a.length) x = Tl.at_ (labP a a.length) y ↔ y ∈ cyc a x)) := hide (fun x y hx hy => labP_same HPA.out (by rw [HAL.out]; exact hx) (by rw [HAL.out]; exact hy))
      obtain ⟨lab, hlab⟩ : ∃ l, labP a a.length = l := ⟨_, rfl⟩
      rw [hlab] at HUA HLL HSM
      clear hlab
      have hP0 : prtK a 0 = [] := rfl
      go_wp2_with fail
      go_loopw [8, 28] (fun ov iv wr => ∃ (i q d : Nat) (Q : Option Addr) (vs : List Value), ov = .slice Q q d ∧ iv = .int .i64 i ∧ i ≤ N ∧ q ≤ i ∧ Hid (WR wr w8.heap.size Q q d vs (prtK a i)) ∧ Hid (Below w8.heap.size w8 wr)) (fun _ iv _ => N - (intOf iv).toNat)
      case atStart => exact ⟨0, 0, 0, none, [], rfl, by go_num, Nat.zero_le _, Nat.le_refl _, hide hw0, hide (Below.refl _ _)⟩
      case round =>
        clear hw0 hP0
        obtain ⟨i, q, d, Q, vs, rfl, rfl, hin, hqi, HWR, HBR⟩ := hrel
        by_cases hi : i < N
        · have ha : Below wr.heap.size wr (wr.alloc (.cells #[.int .i64 i] 3)) := (Below.refl _ _).alloc (Nat.le_refl _) _
          have HWR1 := hide (HWR.out.to ha)
          have HBR1 := hide (HBR.out.trans (ha.mono HBR.out.size))
          have BI1 : Blk (wr.alloc (.cells #[.int .i64 i] 3)) wr.heap.size 3 #[.int .i64 i] := Blk.new _ _ _
          have BJ1 := BJ.out.below HBR1.out BJ.out.lt
          have HO1 := hide (HO.out.il.below HBR1.out)
          have hpl := HWR.out.len
          have HEA : Hid (∀ k, k < (prtK a i).length → ((prtK a i).getD k []).getD 0 0 < i ∧ (prtK a i).getD k [] ≠ []) := hide (fun k hk => by
            obtain ⟨m, _, m2, _, _, m4, m5⟩ := prtK_row HPA.out (by rw [HAL.out]; exact hin) hk
            exact ⟨by rw [m4]; exact m2, m5⟩)
          have HIX := hide (idxF_any (caps := [.pointer (some ⟨gj, 0, none⟩), .pointer (some ⟨wr.heap.size, 0, none⟩)]) (fun o => decide (Tl.at_ lab (o.getD 0 0).toNat = Tl.at_ lab i)) ePts1 Q q d (zssW (prtK a i)) (wr.alloc (.cells #[.int .i64 i] 3)) HWR1.out.ill (fun p B m e k hk hil => by
            have hk2 : k < (prtK a i).length := by rw [hpl]; exact hk
            rw [zssW_getD hk2] at hil ⊢
            obtain ⟨e1, e2⟩ := HEA.out k hk2
            have h := closP_any gj wr.heap.size N gc m e i (some ⟨g, 0, none⟩) B par lab ((prtK a i).getD k []) _ (BJ1.drewN p) (BI1.drewN p) (HO1.out.drewN p) HUA.out hil e2 (by rw [HLL.out]; omega) (by rw [HLL.out]; exact hi) (by omega)
            have e3 : (zs ((prtK a i).getD k [])).getD 0 0 = ((((prtK a i).getD k []).getD 0 0 : Nat) : Int) := zs_getD _ _
            rw [e3, Int.toNat_natCast]
            exact h))
          have HLT : Hid (∀ (p : Nat) (v : Value) (g' : Nat), vs[p]? = some v → v.ownBlock = some g' → g' ≠ wr.heap.size) := hide (fun p v g' hv hg' e => by
            have hpl := (List.getElem?_eq_some_iff.1 hv).1
            obtain ⟨R, m, cc, hv2, ho2⟩ := HWR.out.row (p := p) (by rw [← HWR.out.own.len]; exact hpl)
            rw [hv] at hv2
            injection hv2 with hv2
            rw [hv2] at hg'
            have := (ho2.lt g' hg').2
            omega)
          have HFD : Hid (∀ k, k < q → (decide (Tl.at_ lab (((zssW (prtK a i)).getD k []).getD 0 0).toNat = Tl.at_ lab i) = true ↔ i ∈ cyc a (((prtK a i).getD k []).getD 0 0))) := hide (fun k hk => by
            have hk2 : k < (prtK a i).length := by rw [hpl]; exact hk
            obtain ⟨e1, e2⟩ := HEA.out k hk2
            rw [zssW_getD hk2, zs_getD, Int.toNat_natCast, decide_eq_true_iff]
            exact HSM.out _ _ (by omega) hi)
          have hgi8 : w8.heap.size ≤ wr.heap.size := HBR.out.size
          clear ha HO1 BJ1 HWR HBR
          go_wp2_with fail
          generalize hgi : wr.heap.size = gi at *
          clear hgi
          generalize wr.alloc (.cells #[.int .i64 i] 3) = w9 at *
          refine HIX.out.mono ?_
          rintro e w10 ⟨⟨rfl, hno⟩ | ⟨b, rfl, hbq, hyes, _⟩, k2, rfl⟩
          · have hkd : Below w9.heap.size w9 (w9.drewN k2) := below_drewN (Below.refl _ _) k2
            have HWR2 := hide (HWR1.out.to hkd)
            have HBR2 := hide (HBR1.out.trans (hkd.mono HBR1.out.size))
            have BI2 := BI1.drewN k2
            have HNW : Hid (prtK a (i + 1) = prtK a i ++ [[i]]) := hide (prtK_new HPA.out (by rw [HAL.out]; exact hi) (fun k hk hc => by
              have hk2 : k < q := by rw [← hpl]; exact hk
              have h := (HFD.out k hk2).2 hc
              have h2 := hno k hk2
              rw [h] at h2
              cases h2))
            have hci : (w9.drewN k2).cell? ⟨gi, 0, none⟩ = some (.int .i64 i) := BI2.cell 0
            clear hno HWR1 HBR1 BI1 hkd HIX HFD HEA
            generalize w9.drewN k2 = w11 at *
            have own4 := (HWR2.out.own.alloc (.cells #[.int .i64 i] 3)).alloc (.cells #[.slice (some ⟨w11.heap.size, 0, none⟩) 1 1] 22)
            have hs11 := HBR2.out.size
            go_wp2_with (at_builtin; refine wpList_append_val _ rfl _ _ 23 rfl w8.heap.size i1 Try.underlying23 HI1.out HZ0.out HZ1.out HZ2.out Q q d vs rfl own4 ⟨w11.heap.size + 1, 0, none⟩ 1 (.slice (some ⟨w11.heap.size, 0, none⟩) 1 1) rfl (by have := (Blk.new (w11.alloc (.cells #[.int .i64 i] 3)) 22 #[.slice (some ⟨w11.heap.size, 0, none⟩) 1 1]).cell 0; rw [World.size_alloc] at this; exact this) rfl (by omega) (by rw [World.size_alloc, World.size_alloc]; omega) ?_; intro Q' d' w12 hap)
            have HW3 := hide (HWR2.out.add hs11 i hap)
            rw [← HNW.out] at HW3
            have HB12 : Hid (Below w8.heap.size w8 w12) := hide (((HBR2.out.alloc hs11 _).alloc (by rw [World.size_alloc]; omega) _).grown hap.grown (by rw [World.size_alloc, World.size_alloc]; omega) (fun b hb => (HWR2.out.own.lt b (by rw [← hb]; exact ownBlock_len Q q (q + 1) d d)).1))
            clear hap own4
            go_roundw
            case rel => exact ⟨i + 1, q + 1, d', Q', _, rfl, by go_num, by omega, by omega, HW3, HB12⟩
            case measure => simp [intOf]; omega
          · have hkd : Below w9.heap.size w9 (w9.drewN k2) := below_drewN (Below.refl _ _) k2
            have HWR2 := hide (HWR1.out.to hkd)
            have HBR2 := hide (HBR1.out.trans (hkd.mono HBR1.out.size))
            have BI2 := BI1.drewN k2
            have HNW : Hid (prtK a (i + 1) = (prtK a i).set b ((prtK a i).getD b [] ++ [i])) := hide (prtK_put HPA.out (by rw [HAL.out]; exact hi) (by rw [hpl]; exact hbq) ((HFD.out b hbq).1 hyes))
            have hci : (w9.drewN k2).cell? ⟨gi, 0, none⟩ = some (.int .i64 i) := BI2.cell 0
            clear hyes HWR1 HBR1 BI1 hkd HIX HFD
            generalize w9.drewN k2 = w11 at *
            have hs11 := HBR2.out.size
            obtain ⟨R, m, cc, hvb, hob⟩ := HWR2.out.row hbq
            have hm6 : m ≤ 1000 := by
              have h1 := hob.len
              rw [zs_length] at h1
              obtain ⟨m3, _, _, _, m4, _⟩ := prtK_row HPA.out (by rw [HAL.out]; exact hin) (show b < (prtK a i).length by rw [hpl]; exact hbq)
              rw [m4] at h1
              have h2 : (rowP a i m3).length ≤ i := by
                unfold rowP
                refine Nat.le_trans (List.length_filter_le _ _) ?_
                rw [List.length_range]
                exact Nat.le_refl _
              omega
            obtain ⟨gQ, rfl, hcQ⟩ := HWR2.out.own.cellAt hbq
            rw [hvb] at hcQ
            have HVB := hide hvb
            have HOB := hide hob
            have HBI2 := hide BI2
            clear hvb hob BI2
            go_wp2_with fail
            refine wp_region_T (S := fun w' => w'.cell? ⟨gQ, b, none⟩ = some (.slice R m cc) ∧ w'.cell? ⟨gi, 0, none⟩ = some (.int .i64 i)) 10 (by kernel_rfl) ⟨hcQ, hci⟩ (fun hS => ?_)
            refine wpT_tk 0 (v := .slice (some ⟨gQ, 0, none⟩) q d) rfl (by kernel_rfl) (by kernel_rfl) (by kernel_rfl) (by kernel_rfl) (yi rfl fun w' hw' => gives_move (.inl rfl) rfl) hS ?_
            go_frame
            refine wpT_tk 1 (v := .int .i64 b) rfl (by kernel_rfl) (by kernel_rfl) (by kernel_rfl) (by kernel_rfl) (yi rfl fun w' hw' => gives_move (.inl rfl) rfl) hS ?_
            go_frame
            refine wpT_tk 2 (v := .slice (some ⟨gQ, 0, none⟩) q d) rfl (by kernel_rfl) (by kernel_rfl) (by kernel_rfl) (by kernel_rfl) (yi rfl fun w' hw' => gives_move (.inl rfl) rfl) hS ?_
            go_frame
            refine wpT_tk 3 (v := .int .i64 b) rfl (by kernel_rfl) (by kernel_rfl) (by kernel_rfl) (by kernel_rfl) (yi rfl fun w' hw' => gives_move (.inl rfl) rfl) hS ?_
            go_frame
            refine wpT_tk 4 (v := .pointer (some ⟨gQ, b, none⟩)) rfl (by kernel_rfl) (by kernel_rfl) (by kernel_rfl) (by kernel_rfl) (yi rfl fun w' hw' => gives_indexQ rfl Try.underlying23 (fun _ => by kernel_rfl) rfl rfl hbq) hS ?_
            go_frame
            refine wpT_tk 5 (v := .slice R m cc) rfl (by kernel_rfl) (by kernel_rfl) (by kernel_rfl) (by kernel_rfl) (yi rfl fun w' hw' => gives_load1 rfl (by kernel_rfl) rfl hw'.1) hS ?_
            go_frame
            refine wpT_tk 6 (v := .int .i64 i) rfl (by kernel_rfl) (by kernel_rfl) (by kernel_rfl) (by kernel_rfl) (yi rfl fun w' hw' => gives_load1 rfl (by kernel_rfl) rfl hw'.2) hS ?_
            go_frame
            obtain ⟨curQ, BQ⟩ : ∃ cur, Blk w11 gQ 22 cur := by
              rcases HWR2.out.own.own.2 with ⟨e, _⟩ | ⟨g, cap, cur, e, _, hh, _⟩
              · cases e
              · simp only [Value.slice.injEq, Option.some.injEq, Addr.mk.injEq, and_true, true_and] at e
                obtain ⟨rfl, _⟩ := e
                exact ⟨cur, hh⟩
            have hgQ := HWR2.out.own.lt gQ rfl
            have BQ2 : Blk (w11.drew.alloc (.cells #[.int .i64 i] 3)) gQ 22 curQ := Blk.alloc (w := w11.drew) BQ _
            have BI3 : Blk (w11.drew.alloc (.cells #[.int .i64 i] 3)) gi 3 #[.int .i64 i] := Blk.alloc (w := w11.drew) HBI2.out _
            have hcQ2 : curQ[b]? = some (.slice R m cc) := by rw [← BQ.cell b]; exact hcQ
            refine wpT_1 7 rfl (by kernel_rfl) ?_
            refine wp_buildSlice_at (cells := #[.int .i64 i]) (l := [(0, .tmp 47)]) i0 (.int .i64 0) 1 [(0, .int .i64 i)] rfl Try.underlying22 HI0.out HY0.out HY1.out (by omega) (by omega) rfl (by simp [Instr.fill, Value.cells, show Array.range (1 * 1) = #[0] from rfl]) ?_
            refine ⟨fun _ => ⟨by rw [BQ2.cell b]; exact hcQ2, BI3.cell 0⟩, ?_⟩
            go_frame
            refine wpT_1 8 rfl (by kernel_rfl) ?_
            refine wp_append_int _ (.tmp 46) (.tmp 48) 22 rfl w8.heap.size i0 Try.underlying22 HI0.out HY0.out HY1.out HY2.out R m cc (zs ((prtK a i).getD b [])) rfl (HOB.out.drew.alloc _) (some ⟨w11.drew.heap.size, 0, none⟩) 1 1 [(i : Int)] rfl (IL.lit w11.drew [(i : Int)] (by simp) rfl rfl) (by omega) (by rw [World.size_alloc]; show w8.heap.size ≤ w11.heap.size + 1; omega) ?_
            intro R' c' w12 hap
            have hrow : (Value.slice R (m + 1) cc).ownBlock = (Value.slice R m cc).ownBlock := ownBlock_len R (m + 1) m cc cc
            have BQ3 := BQ2.grown hap.grown (by rw [hrow]; exact fun e => ownI_ne_ HOB.out BQ (by decide) e)
            have BI4 := BI3.grown hap.grown (by rw [hrow]; exact fun e => HLT.out b _ gi HVB.out e.symm rfl)
            have hcQ3 : w12.cell? ⟨gQ, b, none⟩ = some (.slice R m cc) := by rw [BQ3.cell b]; exact hcQ2
            refine ⟨fun _ => ⟨hcQ3, BI4.cell 0⟩, ?_⟩
            go_frame
            refine wpT_tk 9 (v := .pointer (some ⟨gQ, b, none⟩)) rfl (by kernel_rfl) (by kernel_rfl) (by kernel_rfl) (by kernel_rfl) (yi rfl fun w' hw' => gives_indexQ rfl Try.underlying23 (fun _ => by kernel_rfl) rfl rfl hbq) ⟨hcQ3, BI4.cell 0⟩ ?_
            go_frame
            refine wpT_1 10 rfl (by kernel_rfl) ?_
            refine wp_storeS rfl (by kernel_rfl) (by kernel_rfl) rfl rfl hcQ3 (BQ3.frozen b) ?_
            refine ⟨fun h => absurd rfl h, ?_⟩
            go_frame
            refine wpT_done (by kernel_rfl) (noPanic_mk ?_) _
            have hdr : Below w11.heap.size w11 w11.drew := (Below.refl _ _).drew
            have HW3 := hide ((HWR2.out.to hdr).put (i := i) hs11 hbq HVB.out HOB.out.drew hap)
            rw [← HNW.out] at HW3
            have HB13 : Hid (Below w8.heap.size w8 (w12.setCell ⟨gQ, b, none⟩ (.slice R' (m + 1) c'))) :=
              hide ((((HBR2.out.trans (hdr.mono hs11)).alloc (by show w8.heap.size ≤ w11.heap.size; exact hs11) _).grown hap.grown (by rw [World.size_alloc]; show w8.heap.size ≤ w11.heap.size + 1; omega) (fun b' hb' => (HOB.out.lt b' (by rw [← hrow]; exact hb')).1)).setCell (p := ⟨gQ, b, none⟩) hgQ.1 _)
            clear hS hap BQ BQ2 BQ3 BI3 BI4 hcQ hcQ2 hcQ3 hci hdr
            go_wp2_with fail
            go_roundw
            case rel => exact ⟨i + 1, q, d, _, _, rfl, by go_num, by omega, by omega, HW3, HB13⟩
            case measure => simp [intOf]; omega
        · have hiN : i = N := by omega
          have HFIN : Hid (prtK a i = prtL a) := hide (by rw [hiN, ← HAL.out]; exact prtK_all a)
          rw [HFIN.out] at HWR
          have HWE := hide (HW.out.trans (HBR.out.mono HW.out.size))
          clear hiN
          go_wp2_with fail
          go_ret
          rw [HAA.out]
          exact ⟨_, _, _, rfl, HWR.out.ill, HWE.out⟩
end Go.Proofs.Ytndgffiihbdppaa
/- timbref1.Linked: the function that tells a strand's component. -/
namespace Go.Proofs.Ytndgffiihbdppaa
set_option linter.unusedVariables false
set_option linter.unusedSimpArgs false
open Go.RowKit

theorem lkAt_of {a : List Nat} {s k : Nat} (hk : k < (prtL a).length) (h1 : s ∈ (prtL a).getD k []) (h2 : ∀ j, j < k → s ∉ (prtL a).getD j []) : lkAt a s = k := by
  unfold lkAt
  rw [List.findIdx_eq hk]
  refine ⟨?_, fun j hj => ?_⟩
  · rw [decide_eq_true_iff]
    simpa [List.getD, List.getElem?_eq_getElem hk] using h1
  · have := h2 j hj
    rw [decide_eq_false_iff_not]
    simpa [List.getD, List.getElem?_eq_getElem (show j < (prtL a).length by omega)] using this
theorem prt_has {a : List Nat} (h : isP a) {s : Nat} (hs : s < a.length) : ∃ k, k < (prtL a).length ∧ s ∈ (prtL a).getD k [] := by
  have hl := lkAt_lt h hs
  refine ⟨lkAt a s, hl, ?_⟩
  have := List.findIdx_getElem (w := hl)
  rw [List.getD, List.getElem?_eq_getElem hl, Option.getD_some]
  unfold lkAt
  simpa using this
theorem ePts3 : ∀ args w, (callFunc 44 args).run Try.prog w = .ok (.enter 44 args) w := enters (fn := Try.f44) (by kernel_rfl) (by kernel_rfl) (by kernel_rfl)
theorem zs_toNat (l : List Nat) : (zs l).map Int.toNat = l := by
  unfold zs
  rw [List.map_map]
  conv => rhs; rw [← List.map_id l]
  exact List.map_congr_left fun x _ => rfl
set_option maxRecDepth 100000 in
set_option maxHeartbeats 2000000 in
theorem cont3_any (gs m oc s : Nat) (B : Option Addr) (us : List Nat) (w : World) (hbs : Blk w gs 3 #[.int .i64 s]) (ho : IL w B m (zs us)) :
    Calls Try.prog 44 #[.slice B m oc, .pointer (some ⟨gs, 0, none⟩)] w fun e w' => e = .returned (.bool (decide (s ∈ us))) ∧ w = w' := by
  have hcc : us.contains s = decide (s ∈ us) := by rw [Bool.eq_iff_iff, List.contains_iff_mem, decide_eq_true_iff]
  have HC := hide (contains_any B m oc us s w ho)
  rw [hcc] at HC
  clear hcc
  have hc := hbs.cell 0
  simp at hc
  clear hbs ho
  go_enter Try.func44, Try.ntmps44
  go_wp2_with fail
  refine HC.out.mono ?_
  rintro e w1 ⟨rfl, rfl⟩
  go_wp2_with fail
  go_ret
  exact ⟨rfl, rfl⟩
set_option maxRecDepth 100000 in
set_option maxHeartbeats 4000000 in
theorem of_any (gp s q d : Nat) (Q : Option Addr) (a : List Nat) (w : World) (h : isP a) (hbp : Blk w gp 23 #[.slice Q q d]) (hq : ILL w Q q (zssW (prtL a))) (hs : s < a.length) :
    Calls Try.prog 43 #[.int .i64 s, .pointer (some ⟨gp, 0, none⟩)] w fun e w' => e = .returned (.int .i64 (lkAt a s : Nat)) ∧ Below w.heap.size w w' := by
  have hl : (prtL a).length = q := by have := hq.len; simpa [zssW] using this
  have ha : Below w.heap.size w (w.alloc (.cells #[.int .i64 s] 3)) := (Below.refl _ _).alloc (Nat.le_refl _) _
  have BI : Blk (w.alloc (.cells #[.int .i64 s] 3)) w.heap.size 3 #[.int .i64 s] := Blk.new _ _ _
  have hcp := (hbp.below ha hbp.lt).cell 0
  simp at hcp
  have HIX := hide (idxF_any (caps := [.pointer (some ⟨w.heap.size, 0, none⟩)]) (fun o => decide (s ∈ o.map Int.toNat)) ePts3 Q q d (zssW (prtL a)) (w.alloc (.cells #[.int .i64 s] 3)) (hq.below ha) (fun p B m e k hk hil => by
    have hk2 : k < (prtL a).length := by omega
    rw [zssW_getD hk2] at hil ⊢
    rw [zs_toNat]
    exact (cont3_any w.heap.size m e s B _ _ (BI.drewN p) hil).mono fun _ _ ⟨h1, h2⟩ => ⟨h1, 0, h2.symm⟩))
  have HF : Hid (∀ k, k < q → decide (s ∈ ((zssW (prtL a)).getD k []).map Int.toNat) = decide (s ∈ (prtL a).getD k [])) := hide (fun k hk => by
    rw [zssW_getD (by omega), zs_toNat])
  have HB := hide ha
  have HP := hide h
  have HS := hide hs
  have HL := hide hl
  clear ha BI hbp hq h hs hl
  go_enter Try.func43, Try.ntmps43
  go_wp2_with fail
  generalize w.alloc (.cells #[.int .i64 s] 3) = w9 at *
  refine HIX.out.mono ?_
  rintro e w10 ⟨⟨rfl, hno⟩ | ⟨b, rfl, hbq, hyes, hfst⟩, k2, rfl⟩
  · exfalso
    obtain ⟨k, hk, hm⟩ := prt_has HP.out HS.out
    have h1 := hno k (by rw [← HL.out]; exact hk)
    have h2 := HF.out k (by rw [← HL.out]; exact hk)
    rw [h1] at h2
    rw [decide_eq_true hm] at h2
    cases h2
  · have HE : Hid (lkAt a s = b) := hide (lkAt_of (by rw [HL.out]; exact hbq) (by
      have h2 := HF.out b hbq
      rw [hyes] at h2
      exact of_decide_eq_true h2.symm) (fun j hj => by
      have h2 := HF.out j (by omega)
      rw [hfst j hj] at h2
      exact of_decide_eq_false h2.symm))
    clear hyes hfst HIX HF
    go_wp2_with fail
    go_ret
    rw [HE.out]
    exact ⟨rfl, below_drewN HB.out k2⟩
end Go.Proofs.Ytndgffiihbdppaa
/- What a letter adds to the linking numbers (mathematics). -/
namespace Go.Proofs.Ytndgffiihbdppaa
set_option linter.unusedVariables false
set_option linter.unusedSimpArgs false

/-- What a letter adds. -/
def lkC1 (n : Nat) (a : List Nat) (i k : Nat) (u : List Int) (x : Int) : Int := (if lkAt a (lkS n u (x.natAbs - 1)) = i ∧ lkAt a (lkS n u x.natAbs) = k then x.sign else 0) + (if lkAt a (lkS n u x.natAbs) = i ∧ lkAt a (lkS n u (x.natAbs - 1)) = k then x.sign else 0)
theorem lkSum_snoc {n : Nat} {a : List Nat} (i k : Nat) (x : Int) : ∀ (w u : List Int), lkSum n a i k u (w ++ [x]) = lkSum n a i k u w + lkC1 n a i k (u ++ w) x
  | [], u => by
    rw [List.append_nil]
    show lkC1 n a i k u x + 0 = 0 + lkC1 n a i k u x
    omega
  | y :: w, u => by
    have ih := lkSum_snoc (n := n) (a := a) i k x w (u ++ [y])
    show lkC1 n a i k u y + lkSum n a i k (u ++ [y]) (w ++ [x]) = lkC1 n a i k u y + lkSum n a i k (u ++ [y]) w + lkC1 n a i k (u ++ y :: w) x
    rw [ih, show u ++ [y] ++ w = u ++ y :: w by simp]
    omega
end Go.Proofs.Ytndgffiihbdppaa
