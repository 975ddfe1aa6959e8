/- freegroup.reduced. -/
import Derived.Test.YtbckgomidoelaaaFgSmall
namespace Go.Proofs.Ytbckgomidoelaaa
set_option linter.unusedVariables false
set_option linter.unusedSimpArgs false
open Go.RowKit

set_option maxRecDepth 100000 in
set_option maxHeartbeats 2000000 in
theorem fred_any (A : Option Addr) (n c : Nat) (xs : List Int) (w : World) (ha : IL w A n xs) (hb : ∀ x ∈ xs, -1000 ≤ x ∧ x ≤ 1000) (hn : n ≤ 1000000) :
    Calls Try.prog 27 #[.slice A n c] w (GivesOwn w (nf xs)) := by
  have hl := ha.len
  have hns := ha.small
  have HA := hide ha
  have HL := hide hl
  have HB := hide hb
  obtain ⟨i0, hi0, hz0, hz1, hz2⟩ := info_parts int_info
  have HI0 := hide hi0
  have HZ0 := hide hz0
  have HZ1 := hide hz1
  have HZ2 := hide hz2
  clear ha hl hb
  go_enter Try.func27, Try.ntmps27
  go_wp2_with (at_make; refine wpList_make_own _ rfl _ _ 22 rfl w.heap.size 3 i0 (.int .i64 0) 1 Try.underlying22 hi0 hz0 hz1 .i64 .i64 _ n rfl rfl rfl (by rw [hz2]; omega) (by unfold maxLen; omega) (Nat.le_refl _) ?_; intro w1 hown1 hg1)
  have hB1 : Below w.heap.size w w1 := (Below.refl _ _).grown hg1 (Nat.le_refl _) (by intro k hk; cases hk)
  have hw1 : OwnI w1 w.heap.size (some ⟨w.heap.size, 0, none⟩) 0 n [] := ⟨hown1, by omega⟩
  clear hown1 hg1 hi0 hz0 hz1 hz2
  go_loopw [3, 12] (fun rv iv wr => ∃ (k m c2 : Nat) (R : Option Addr), rv = .slice R m c2 ∧ iv = .int .i64 k ∧ k ≤ n ∧ m ≤ k ∧ OwnI wr w.heap.size R m c2 ((xs.take k).foldl snc []) ∧ Below w.heap.size w wr) (fun _ iv _ => n - (intOf iv).toNat)
  case atStart => exact ⟨0, 0, n, _, rfl, rfl, Nat.zero_le _, Nat.le_refl _, hw1, hB1⟩
  case round =>
    clear hw1 hB1
    obtain ⟨k, m, c2, R, rfl, rfl, hk, hmk, ho, hb⟩ := hrel
    by_cases hlt : k < n
    · obtain ⟨ad, rfl, hcl⟩ := (HA.out.below hb).at_ hlt
      have hkl : k < xs.length := by rw [HL.out]; exact hlt
      have HT : Hid ((xs.take (k + 1)).foldl snc [] = snc ((xs.take k).foldl snc []) (xs.getD k 0)) := by
        rw [List.take_succ_eq_append_getElem hkl, List.foldl_append]
        simp [List.getD, List.getElem?_eq_getElem hkl]
        exact trivial
      have hx := HB.out (xs.getD k 0) (by rw [show xs.getD k 0 = xs[k] by simp [List.getD, List.getElem?_eq_getElem hkl]]; exact List.getElem_mem _)
      have hbl : ∀ y ∈ (xs.take k).foldl snc [], -1000 ≤ y ∧ y ≤ 1000 := fun y hy => by
        rcases foldl_snc_mem _ _ hy with h | h
        · simp at h
        · exact HB.out y (List.mem_of_mem_take h)
      generalize xs.getD k 0 = x at *
      generalize (xs.take k).foldl snc [] = L at *
      obtain ⟨L2, hL2⟩ : ∃ L2, (xs.take (k + 1)).foldl snc [] = L2 := ⟨_, rfl⟩
      rw [hL2] at HT
      have HL2 := hide hL2
      clear hL2
      have HO := hide ho
      have HB2 := hide hb
      have hll := ho.len
      by_cases h0 : m = 0
      · have HS : Hid (L2 = L ++ [x]) := hide (by rw [HT.out]; exact snc_push hll (.inl h0))
        have hg : decide ((0 : Int) < (m : Int)) = false := decide_eq_false (by omega)
        have hg2 : decide (0 < m) = false := decide_eq_false (by omega)
        clear ho hb hll hbl HT h0
        go_wp2_with (at_builtin; refine wpList_append_int _ rfl (.tmp 34) (.tmp 36) 22 rfl w.heap.size i0 Try.underlying22 HI0.out HZ0.out HZ1.out HZ2.out R m c2 L rfl (HO.out.alloc _) (some ⟨_, 0, none⟩) 1 1 [x] rfl (IL.lit _ [x] (by simp) rfl rfl) (by omega) (by have := HB2.out.size; simp; omega) ?_; intro A8 c8 w8 hap)
        have hN := hap.own
        rw [← HS.out] at hN
        have hb8 := (HB2.out.alloc HB2.out.size (.cells #[.int .i64 x] 3)).grown hap.grown (by have := HB2.out.size; simp; omega) (fun j hj => (HO.out.lt j (by rw [ownBlock_len R m (m + 1) c2 c2]; exact hj)).1)
        clear hap
        go_roundw
        case rel => exact ⟨k + 1, m + 1, c8, A8, by go_num, by go_num, by omega, by omega, by rw [HL2.out]; exact hN, hb8⟩
        case measure => simp [intOf]; omega
      · have h1 : 0 < m := by omega
        obtain ⟨g, rfl, hg1, hg2⟩ := ho.form h1
        have hc2 := ho.cell (show m - 1 < m by omega)
        have hmem : L.getD (m - 1) 0 ∈ L := by
          have : m - 1 < L.length := by omega
          rw [show L.getD (m - 1) 0 = L[m - 1] by simp [List.getD, List.getElem?_eq_getElem this]]
          exact List.getElem_mem _
        obtain ⟨hy0, hy1⟩ := hbl _ hmem
        have hcap := ho.cap
        have hp0 : (0 : Int) ≤ (m : Int) - 1 := by omega
        have hp1 : (m : Int) - 1 < (m : Int) := by omega
        have hp2 : ((m : Int) - 1).toNat = m - 1 := by omega
        have hp3 : (m : Int) - 1 ≤ (c2 : Int) := by omega
        have hwr : IntKind.i64.wrap ((m : Int) - 1) = (m : Int) - 1 := by rw [IntKind.wrap_i64]; omega
        have hg : decide ((0 : Int) < (m : Int)) = true := decide_eq_true (by omega)
        by_cases hxy : L.getD (m - 1) 0 = -x
        · have HS : Hid (L2 = L.take (m - 1)) := hide (by rw [HT.out]; exact snc_pop hll h1 hxy)
          have HN : Hid (OwnI wr w.heap.size (some ⟨g, 0, none⟩) (m - 1) c2 L2) := by
            rw [HS.out]
            exact ho.shrink (by omega) h1
          generalize L.getD (m - 1) 0 = y at *
          have hbe : (y == -x) = true := by simpa using hxy
          clear ho hb hll hbl HT hmem hxy
          go_wp2_with fail
          go_roundw
          case rel => exact ⟨k + 1, m - 1, c2, _, rfl, by go_num, by omega, by omega, by rw [HL2.out]; exact HN.out, HB2.out⟩
          case measure => simp [intOf]; omega
        · have HS : Hid (L2 = L ++ [x]) := hide (by rw [HT.out]; exact snc_push hll (.inr hxy))
          generalize L.getD (m - 1) 0 = y at *
          have hbe : (y == -x) = false := by simpa using hxy
          clear ho hb hll hbl HT hmem hxy
          go_wp2_with (at_builtin; refine wpList_append_int _ rfl (.tmp 34) (.tmp 36) 22 rfl w.heap.size i0 Try.underlying22 HI0.out HZ0.out HZ1.out HZ2.out (some ⟨g, 0, none⟩) m c2 L rfl (HO.out.alloc _) (some ⟨_, 0, none⟩) 1 1 [x] rfl (IL.lit _ [x] (by simp) rfl rfl) (by omega) (by have := HB2.out.size; simp; omega) ?_; intro A8 c8 w8 hap)
          have hN := hap.own
          rw [← HS.out] at hN
          have hb8 := (HB2.out.alloc HB2.out.size (.cells #[.int .i64 x] 3)).grown hap.grown (by have := HB2.out.size; simp; omega) (fun j hj => (HO.out.lt j (by rw [ownBlock_len (some ⟨g, 0, none⟩) m (m + 1) c2 c2]; exact hj)).1)
          clear hap
          go_roundw
          case rel => exact ⟨k + 1, m + 1, c8, A8, by go_num, by go_num, by omega, by omega, by rw [HL2.out]; exact hN, hb8⟩
          case measure => simp [intOf]; omega
    · have HE : Hid (OwnI wr w.heap.size R m c2 (nf xs)) := by
        have h := ho
        rw [List.take_of_length_le (by rw [HL.out]; omega), foldl_snc] at h
        exact h
      have HB2 := hide hb
      clear ho hb
      go_wp2_with fail
      go_ret
      exact ⟨R, m, c2, rfl, HE.out, HB2.out⟩
end Go.Proofs.Ytbckgomidoelaaa
