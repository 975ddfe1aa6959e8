/- Several texts of the walk in one. -/
import Derived.Test.YtihpmdfeonphpaaPart4
import Derived.Test.YtihpmdfeonphpaaPart1
import Derived.Test.YtihpmdfeonphpaaPart2
/- timbref1.Image. (Written by tools/gen_image.py.) -/
namespace Go.Proofs.Ytihpmdfeonphpaa
set_option linter.unusedVariables false
set_option linter.unusedSimpArgs false
open Go.RowKit

def bz (B : Nat) (u : List Int) : Prop := ∀ z ∈ u, z ≠ 0 ∧ z.natAbs ≤ B
theorem bz.nz {B : Nat} {u : List Int} (h : bz B u) : Proofs.Ytihpmdfeonphpaa.nz u := fun z hz => (h z hz).1
theorem bz.inv {B : Nat} {u : List Int} (h : bz B u) : bz B (invw u) := fun z hz => by
  have : ∃ x ∈ u, -x = z := by simpa [invw] using hz
  obtain ⟨x, hx, rfl⟩ := this
  have := h x hx
  omega
theorem artV_bz {y z : Int} (hy : y ≠ 0 ∧ y.natAbs ≤ 800) (hz : z ≠ 0 ∧ z.natAbs ≤ 900) : bz 900 (artV y z) := by
  unfold artV
  intro x hx
  split at hx <;> split at hx <;> (try split at hx) <;> simp at hx <;> omega
theorem artL_bz {y z : Int} (hy : y ≠ 0 ∧ y.natAbs ≤ 800) (hz : z ≠ 0 ∧ z.natAbs ≤ 900) : bz 900 (artL y z) := by
  unfold artL
  split
  · exact (artV_bz hy hz).inv
  · exact artV_bz hy hz
theorem artW_bz {y : Int} (hy : y ≠ 0 ∧ y.natAbs ≤ 800) {u : List Int} (hu : bz 900 u) : bz 900 (artW y u) := fun x hx => by
  obtain ⟨z, hz, h⟩ := List.mem_flatMap.1 hx
  exact artL_bz hy (hu z hz) x h
theorem artV_len (y z : Int) : (artV y z).length ≤ 3 := by
  unfold artV
  split <;> split <;> (try split) <;> simp
theorem artL_len (y z : Int) : (artL y z).length ≤ 3 := by
  unfold artL
  split
  · rw [invw_length]; exact artV_len y z
  · exact artV_len y z
theorem artW_len (y : Int) : ∀ u : List Int, (artW y u).length ≤ 3 * u.length
  | [] => Nat.le_refl _
  | z :: u => by
    rw [artW_cons, List.length_append, List.length_cons]
    have := artL_len y z
    have := artW_len y u
    omega
theorem artW_take {y : Int} {u : List Int} {j : Nat} (hj : j < u.length) : artW y (u.take (j + 1)) = artW y (u.take j) ++ artL y (u.getD j 0) := by
  rw [List.take_succ_eq_append_getElem hj, artW_append, artW_one, show u.getD j 0 = u[j] by simp [List.getD, List.getElem?_eq_getElem hj]]

theorem artF_len' : ∀ (w u : List Int), (artF w u).length ≤ u.length * 3 ^ w.length
  | [], u => by show u.length ≤ _; simp
  | y :: w, u => by
    show (artF w (nf (artW y u))).length ≤ _
    have h1 := artF_len' w (nf (artW y u))
    have h2 := nf_len_le (artW y u)
    have h3 := artW_len y u
    have h4 : (nf (artW y u)).length * 3 ^ w.length ≤ (3 * u.length) * 3 ^ w.length := Nat.mul_le_mul_right _ (by omega)
    rw [List.length_cons, Nat.pow_succ, Nat.mul_comm (3 ^ w.length), ← Nat.mul_assoc, Nat.mul_comm u.length]
    omega
theorem artF_snoc (w : List Int) (y : Int) (u : List Int) : artF (w ++ [y]) u = nf (artW y (artF w u)) := by unfold artF; rw [List.foldl_append]; rfl
set_option maxRecDepth 100000 in
set_option maxHeartbeats 16000000 in
theorem image_big (x : Int) (A : Option Addr) (n c : Nat) (ys : List Int) (w : World) (ha : SL w A n c ys) (hx : x ≠ 0 ∧ x.natAbs ≤ 900) (hy : ∀ y ∈ ys, y ≠ 0 ∧ y.natAbs ≤ 800) (hbd : ∀ k, k ≤ n → (artF (ys.take k) [x]).length ≤ 30000000000) :
    Calls Try.prog 10 #[.int .i64 x, .slice A n c] w (GivesOwn w (artF ys [x])) := by
  obtain ⟨i0, hi0, hz0, hz1, hz2⟩ := info_parts int_info
  have HI0 := hide hi0
  have HZ0 := hide hz0
  have HZ1 := hide hz1
  have HZ2 := hide hz2
  have HA := hide ha
  have HL := hide ha.il.len
  have HX := hide hx
  have HY := hide hy
  have HBD := hide hbd
  have hns := ha.il.small
  clear ha hi0 hz0 hz1 hz2 hx hy hbd
  go_enter Try.func10, Try.ntmps10
  go_wp2_with fail
  have hO : OwnI (w.alloc (.cells #[.int .i64 x] 3)) w.heap.size (some ⟨w.heap.size, 0, none⟩) 1 1 [x] := by
    exact ⟨⟨rfl, .inr ⟨w.heap.size, 1, #[.int .i64 x], rfl, Nat.le_refl _, heap_alloc_new w _, by omega, by unfold maxLen; omega, rfl, rfl⟩⟩, by omega⟩
  have hB : Below w.heap.size w (w.alloc (.cells #[.int .i64 x] 3)) := (Below.refl _ _).alloc (Nat.le_refl _) _
  go_loopw [5, 17] (fun ov iv wr => ∃ (k m d : Nat) (B : Option Addr) (u : List Int), k ≤ n ∧ iv = .int .i64 k ∧ ov = .slice B m d ∧ Hid (OwnI wr w.heap.size B m d u) ∧ Hid (u = artF (ys.take k) [x]) ∧ Hid (bz 900 u) ∧ m ≤ 30000000000 ∧ Hid (Below w.heap.size w wr)) (fun _ iv _ => n - (intOf iv).toNat)
  case atStart => exact ⟨0, 1, 1, _, [x], Nat.zero_le _, rfl, rfl, hide hO, hide rfl, hide (fun z hz => by simp at hz; subst hz; exact HX.out), by omega, hide hB⟩
  case round =>
    clear hO hB
    obtain ⟨k, m, d, B, u, hk, rfl, rfl, HO, HE, HU, hm, HB⟩ := hrel
    by_cases hlt : k < n
    · obtain ⟨ad, rfl, hcl⟩ := (HA.out.below HB.out).il.at_ hlt
      have hkl : k < ys.length := by rw [HL.out]; exact hlt
      obtain ⟨y, hyy⟩ : ∃ y, ys.getD k 0 = y := ⟨_, rfl⟩
      rw [hyy] at hcl
      have hym : y ∈ ys := by rw [← hyy]; simp [List.getD, List.getElem?_eq_getElem hkl]
      have hyb := HY.out y hym
      have HYB := hide hyb
      have HE2 : Hid (nf (artW y u) = artF (ys.take (k + 1)) [x]) := hide (by
        rw [List.take_succ_eq_append_getElem hkl, artF_snoc, show ys[k] = y by rw [← hyy]; simp [List.getD, List.getElem?_eq_getElem hkl], ← HE.out])
      have HIX := hide (fun (w : World) => index_any_ y w (by omega))
      obtain ⟨i, hi⟩ : ∃ i, y.natAbs = i := ⟨_, rfl⟩
      rw [hi] at HIX
      have HI := hide hi
      have hi8 : 1 ≤ i ∧ i ≤ 800 := by omega
      have HLT := hide hlt
      have HK := hide hk
      have HM := hide hm
      have hm6 : m ≤ 30000000000 := hm
      have hm7 : 3 * m ≤ 90000000000 := by omega
      have HUL := hide HO.out.len
      have HSU := hide HO.out.sl
      clear hyy hym hyb hi hk hm hkl
      go_wp2_with fail
      refine (HIX.out _).mono ?_
      rintro e w' ⟨rfl, rfl⟩
      go_wp2_with fail
      rename World => wo
      have HN0 : Hid (OwnI wo wo.heap.size none 0 0 (artW y (u.take 0))) := hide (OwnI.nil_ _ _)
      have HW0 := hide (Below.refl wo.heap.size wo)
      clear hcl
      go_loopw [9, 25] (fun ov iv wr => ∃ (j q d2 : Nat) (C : Option Addr), j ≤ m ∧ iv = .int .i64 j ∧ ov = .slice C q d2 ∧ Hid (OwnI wr wo.heap.size C q d2 (artW y (u.take j))) ∧ Hid (Below wo.heap.size wo wr)) (fun _ iv _ => m - (intOf iv).toNat)
      case atStart => exact ⟨0, 0, 0, none, Nat.zero_le _, rfl, rfl, HN0, HW0⟩
      case round =>
        clear HN0 HW0
        obtain ⟨j, q, d2, C, hj, rfl, rfl, HN, HW⟩ := hrel
        by_cases hjm : j < m
        · obtain ⟨ad2, rfl, hcl⟩ := (HSU.out.below HW.out).il.at_ hjm
          have hju : j < u.length := by rw [HUL.out]; exact hjm
          have hzb := HU.out (u.getD j 0) (by simp [List.getD, List.getElem?_eq_getElem hju])
          have HT := hide (artW_take (y := y) hju)
          have hq3 : q ≤ 3 * j := by
            have h1 := HN.out.len
            have h2 := artW_len y (u.take j)
            rw [List.length_take] at h2
            omega
          have hqs : q + 3 ≤ 90000000000 := by omega
          obtain ⟨z, hz⟩ : ∃ z, u.getD j 0 = z := ⟨_, rfl⟩
          rw [hz] at hcl hzb HT
          have HZB := hide hzb
          have HIY := hide (fun (w : World) => index_any_ z w (by omega))
          obtain ⟨p, hp⟩ : ∃ p, z.natAbs = p := ⟨_, rfl⟩
          rw [hp] at HIY
          have hp9 : 1 ≤ p ∧ p ≤ 900 := by omega
          have HP := hide hp
          have hy0 := HYB.out.1
          have HJ := hide hj
          have HJM := hide hjm
          clear hz hp hzb hju hq3
          by_cases hy : 0 < y
          · by_cases hpi : p = i
            · have HV : Hid (artV y z = [(i : Int), (i : Int) + 1, -(i : Int)]) := hide (by unfold artV; rw [HP.out, HI.out, if_pos hy, if_pos hpi])
              have hb : Below wr.heap.size wr (wr.alloc (.cells #[.int .i64 ((i : Int)), .int .i64 ((i : Int) + 1), .int .i64 (-(i : Int))] 3)) := (Below.refl _ _).alloc (Nat.le_refl _) _
              have HS := hide (SL.lit wr [(i : Int), (i : Int) + 1, -(i : Int)] (by simp) (cs := #[.int .i64 ((i : Int)), .int .i64 ((i : Int) + 1), .int .i64 (-(i : Int))]) rfl (m := 3) rfl)
              have HBV : Hid (∀ x ∈ ([(i : Int), (i : Int) + 1, -(i : Int)] : List Int), -1000 ≤ x ∧ x ≤ 1000) := hide (by intro x hx; simp at hx; omega)
              replace HN := hide (HN.out.below hb)
              replace HW := hide (HW.out.trans (hb.mono HW.out.size))
              clear hb
              have f1 : ((p : Int) == (i : Int)) = true := by simp; omega
              by_cases hzn : z < 0
              · go_wp2_with fail
                refine (HIY.out _).mono ?_
                rintro e w' ⟨rfl, hww⟩
                subst hww
                go_wp2_with fail
                refine (opposite_any _ 3 3 _ _ HS.out.il HBV.out).mono ?_
                rintro e w3 ⟨V, vn, vc, rfl, ho, hb⟩
                have HVL : Hid (vn ≤ 3) := hide (by rw [← ho.len, invw_length]; simp)
                have hvl := HVL.out
                replace HN := hide (HN.out.below hb)
                replace HW := hide (HW.out.trans (hb.mono HW.out.size))
                have HO3 := hide ho.sl.il
                clear ho hb
                have HAL : Hid (artL y z = invw [(i : Int), (i : Int) + 1, -(i : Int)]) := hide (by unfold artL; rw [if_pos hzn, HV.out])
                go_wp2_with (at_builtin; refine wpList_append_int _ rfl (.tmp 92) (.tmp 93) 22 rfl wo.heap.size i0 Try.underlying22 HI0.out HZ0.out HZ1.out HZ2.out C q d2 _ rfl HN.out V vn vc _ rfl HO3.out (by omega) HW.out.size ?_; intro A8 c8 w8 hap)
                have hN := hap.own
                rw [← HAL.out, ← HT.out] at hN
                have hb8 := HW.out.grown hap.grown HW.out.size (fun t ht => (HN.out.lt t (by rw [ownBlock_len C q (q + vn) d2 d2]; exact ht)).1)
                clear hap
                have HN8 := hide hN
                have HW8 := hide hb8
                clear hN hb8
                have hjm := HJM.out
                go_roundw
                case rel => exact ⟨j + 1, q + vn, c8, A8, by omega, by go_num, rfl, HN8, HW8⟩
                case measure => simp [intOf]; omega
              · go_wp2_with fail
                refine (HIY.out _).mono ?_
                rintro e w' ⟨rfl, hww⟩
                subst hww
                have HAL : Hid (artL y z = [(i : Int), (i : Int) + 1, -(i : Int)]) := hide (by unfold artL; rw [if_neg (by omega), HV.out])
                go_wp2_with (at_builtin; refine wpList_append_int _ rfl (.tmp 92) (.tmp 93) 22 rfl wo.heap.size i0 Try.underlying22 HI0.out HZ0.out HZ1.out HZ2.out C q d2 _ rfl HN.out (some ⟨wr.heap.size, 0, none⟩) 3 3 _ rfl HS.out.il (by omega) HW.out.size ?_; intro A8 c8 w8 hap)
                have hN := hap.own
                rw [← HAL.out, ← HT.out] at hN
                have hb8 := HW.out.grown hap.grown HW.out.size (fun t ht => (HN.out.lt t (by rw [ownBlock_len C q (q + 3) d2 d2]; exact ht)).1)
                clear hap
                have HN8 := hide hN
                have HW8 := hide hb8
                clear hN hb8
                have hjm := HJM.out
                go_roundw
                case rel => exact ⟨j + 1, q + 3, c8, A8, by omega, by go_num, rfl, HN8, HW8⟩
                case measure => simp [intOf]; omega
            · by_cases hpi : p = i + 1
              · have HV : Hid (artV y z = [(i : Int)]) := hide (by unfold artV; rw [HP.out, HI.out, if_pos hy, if_neg (by omega), if_pos hpi])
                have hb : Below wr.heap.size wr (wr.alloc (.cells #[.int .i64 ((i : Int))] 3)) := (Below.refl _ _).alloc (Nat.le_refl _) _
                have HS := hide (SL.lit wr [(i : Int)] (by simp) (cs := #[.int .i64 ((i : Int))]) rfl (m := 1) rfl)
                have HBV : Hid (∀ x ∈ ([(i : Int)] : List Int), -1000 ≤ x ∧ x ≤ 1000) := hide (by intro x hx; simp at hx; omega)
                replace HN := hide (HN.out.below hb)
                replace HW := hide (HW.out.trans (hb.mono HW.out.size))
                clear hb
                have f1 : ((p : Int) == (i : Int)) = false := by simp; omega
                have f2 : ((p : Int) == (i : Int) + 1) = true := by simp; omega
                by_cases hzn : z < 0
                · go_wp2_with fail
                  refine (HIY.out _).mono ?_
                  rintro e w' ⟨rfl, hww⟩
                  subst hww
                  go_wp2_with fail
                  refine (HIY.out _).mono ?_
                  rintro e w' ⟨rfl, hww⟩
                  subst hww
                  go_wp2_with fail
                  refine (opposite_any _ 1 1 _ _ HS.out.il HBV.out).mono ?_
                  rintro e w3 ⟨V, vn, vc, rfl, ho, hb⟩
                  have HVL : Hid (vn ≤ 3) := hide (by rw [← ho.len, invw_length]; simp)
                  have hvl := HVL.out
                  replace HN := hide (HN.out.below hb)
                  replace HW := hide (HW.out.trans (hb.mono HW.out.size))
                  have HO3 := hide ho.sl.il
                  clear ho hb
                  have HAL : Hid (artL y z = invw [(i : Int)]) := hide (by unfold artL; rw [if_pos hzn, HV.out])
                  go_wp2_with (at_builtin; refine wpList_append_int _ rfl (.tmp 92) (.tmp 93) 22 rfl wo.heap.size i0 Try.underlying22 HI0.out HZ0.out HZ1.out HZ2.out C q d2 _ rfl HN.out V vn vc _ rfl HO3.out (by omega) HW.out.size ?_; intro A8 c8 w8 hap)
                  have hN := hap.own
                  rw [← HAL.out, ← HT.out] at hN
                  have hb8 := HW.out.grown hap.grown HW.out.size (fun t ht => (HN.out.lt t (by rw [ownBlock_len C q (q + vn) d2 d2]; exact ht)).1)
                  clear hap
                  have HN8 := hide hN
                  have HW8 := hide hb8
                  clear hN hb8
                  have hjm := HJM.out
                  go_roundw
                  case rel => exact ⟨j + 1, q + vn, c8, A8, by omega, by go_num, rfl, HN8, HW8⟩
                  case measure => simp [intOf]; omega
                · go_wp2_with fail
                  refine (HIY.out _).mono ?_
                  rintro e w' ⟨rfl, hww⟩
                  subst hww
                  go_wp2_with fail
                  refine (HIY.out _).mono ?_
                  rintro e w' ⟨rfl, hww⟩
                  subst hww
                  have HAL : Hid (artL y z = [(i : Int)]) := hide (by unfold artL; rw [if_neg (by omega), HV.out])
                  go_wp2_with (at_builtin; refine wpList_append_int _ rfl (.tmp 92) (.tmp 93) 22 rfl wo.heap.size i0 Try.underlying22 HI0.out HZ0.out HZ1.out HZ2.out C q d2 _ rfl HN.out (some ⟨wr.heap.size, 0, none⟩) 1 1 _ rfl HS.out.il (by omega) HW.out.size ?_; intro A8 c8 w8 hap)
                  have hN := hap.own
                  rw [← HAL.out, ← HT.out] at hN
                  have hb8 := HW.out.grown hap.grown HW.out.size (fun t ht => (HN.out.lt t (by rw [ownBlock_len C q (q + 1) d2 d2]; exact ht)).1)
                  clear hap
                  have HN8 := hide hN
                  have HW8 := hide hb8
                  clear hN hb8
                  have hjm := HJM.out
                  go_roundw
                  case rel => exact ⟨j + 1, q + 1, c8, A8, by omega, by go_num, rfl, HN8, HW8⟩
                  case measure => simp [intOf]; omega
              · have HV : Hid (artV y z = [(p : Int)]) := hide (by unfold artV; rw [HP.out, HI.out, if_pos hy, if_neg (by omega), if_neg (by omega)])
                have hb : Below wr.heap.size wr (wr.alloc (.cells #[.int .i64 ((p : Int))] 3)) := (Below.refl _ _).alloc (Nat.le_refl _) _
                have HS := hide (SL.lit wr [(p : Int)] (by simp) (cs := #[.int .i64 ((p : Int))]) rfl (m := 1) rfl)
                have HBV : Hid (∀ x ∈ ([(p : Int)] : List Int), -1000 ≤ x ∧ x ≤ 1000) := hide (by intro x hx; simp at hx; omega)
                replace HN := hide (HN.out.below hb)
                replace HW := hide (HW.out.trans (hb.mono HW.out.size))
                clear hb
                have f1 : ((p : Int) == (i : Int)) = false := by simp; omega
                have f2 : ((p : Int) == (i : Int) + 1) = false := by simp; omega
                by_cases hzn : z < 0
                · go_wp2_with fail
                  refine (HIY.out _).mono ?_
                  rintro e w' ⟨rfl, hww⟩
                  subst hww
                  go_wp2_with fail
                  refine (HIY.out _).mono ?_
                  rintro e w' ⟨rfl, hww⟩
                  subst hww
                  go_wp2_with fail
                  refine (HIY.out _).mono ?_
                  rintro e w' ⟨rfl, hww⟩
                  subst hww
                  go_wp2_with fail
                  refine (opposite_any _ 1 1 _ _ HS.out.il HBV.out).mono ?_
                  rintro e w3 ⟨V, vn, vc, rfl, ho, hb⟩
                  have HVL : Hid (vn ≤ 3) := hide (by rw [← ho.len, invw_length]; simp)
                  have hvl := HVL.out
                  replace HN := hide (HN.out.below hb)
                  replace HW := hide (HW.out.trans (hb.mono HW.out.size))
                  have HO3 := hide ho.sl.il
                  clear ho hb
                  have HAL : Hid (artL y z = invw [(p : Int)]) := hide (by unfold artL; rw [if_pos hzn, HV.out])
                  go_wp2_with (at_builtin; refine wpList_append_int _ rfl (.tmp 92) (.tmp 93) 22 rfl wo.heap.size i0 Try.underlying22 HI0.out HZ0.out HZ1.out HZ2.out C q d2 _ rfl HN.out V vn vc _ rfl HO3.out (by omega) HW.out.size ?_; intro A8 c8 w8 hap)
                  have hN := hap.own
                  rw [← HAL.out, ← HT.out] at hN
                  have hb8 := HW.out.grown hap.grown HW.out.size (fun t ht => (HN.out.lt t (by rw [ownBlock_len C q (q + vn) d2 d2]; exact ht)).1)
                  clear hap
                  have HN8 := hide hN
                  have HW8 := hide hb8
                  clear hN hb8
                  have hjm := HJM.out
                  go_roundw
                  case rel => exact ⟨j + 1, q + vn, c8, A8, by omega, by go_num, rfl, HN8, HW8⟩
                  case measure => simp [intOf]; omega
                · go_wp2_with fail
                  refine (HIY.out _).mono ?_
                  rintro e w' ⟨rfl, hww⟩
                  subst hww
                  go_wp2_with fail
                  refine (HIY.out _).mono ?_
                  rintro e w' ⟨rfl, hww⟩
                  subst hww
                  go_wp2_with fail
                  refine (HIY.out _).mono ?_
                  rintro e w' ⟨rfl, hww⟩
                  subst hww
                  have HAL : Hid (artL y z = [(p : Int)]) := hide (by unfold artL; rw [if_neg (by omega), HV.out])
                  go_wp2_with (at_builtin; refine wpList_append_int _ rfl (.tmp 92) (.tmp 93) 22 rfl wo.heap.size i0 Try.underlying22 HI0.out HZ0.out HZ1.out HZ2.out C q d2 _ rfl HN.out (some ⟨wr.heap.size, 0, none⟩) 1 1 _ rfl HS.out.il (by omega) HW.out.size ?_; intro A8 c8 w8 hap)
                  have hN := hap.own
                  rw [← HAL.out, ← HT.out] at hN
                  have hb8 := HW.out.grown hap.grown HW.out.size (fun t ht => (HN.out.lt t (by rw [ownBlock_len C q (q + 1) d2 d2]; exact ht)).1)
                  clear hap
                  have HN8 := hide hN
                  have HW8 := hide hb8
                  clear hN hb8
                  have hjm := HJM.out
                  go_roundw
                  case rel => exact ⟨j + 1, q + 1, c8, A8, by omega, by go_num, rfl, HN8, HW8⟩
                  case measure => simp [intOf]; omega
          · have hyn : y < 0 := by omega
            by_cases hpi : p = i
            · have HV : Hid (artV y z = [(i : Int) + 1]) := hide (by unfold artV; rw [HP.out, HI.out, if_neg (by omega), if_pos hpi])
              have hb : Below wr.heap.size wr (wr.alloc (.cells #[.int .i64 ((i : Int) + 1)] 3)) := (Below.refl _ _).alloc (Nat.le_refl _) _
              have HS := hide (SL.lit wr [(i : Int) + 1] (by simp) (cs := #[.int .i64 ((i : Int) + 1)]) rfl (m := 1) rfl)
              have HBV : Hid (∀ x ∈ ([(i : Int) + 1] : List Int), -1000 ≤ x ∧ x ≤ 1000) := hide (by intro x hx; simp at hx; omega)
              replace HN := hide (HN.out.below hb)
              replace HW := hide (HW.out.trans (hb.mono HW.out.size))
              clear hb
              have f1 : ((p : Int) == (i : Int)) = true := by simp; omega
              by_cases hzn : z < 0
              · go_wp2_with fail
                refine (HIY.out _).mono ?_
                rintro e w' ⟨rfl, hww⟩
                subst hww
                go_wp2_with fail
                refine (opposite_any _ 1 1 _ _ HS.out.il HBV.out).mono ?_
                rintro e w3 ⟨V, vn, vc, rfl, ho, hb⟩
                have HVL : Hid (vn ≤ 3) := hide (by rw [← ho.len, invw_length]; simp)
                have hvl := HVL.out
                replace HN := hide (HN.out.below hb)
                replace HW := hide (HW.out.trans (hb.mono HW.out.size))
                have HO3 := hide ho.sl.il
                clear ho hb
                have HAL : Hid (artL y z = invw [(i : Int) + 1]) := hide (by unfold artL; rw [if_pos hzn, HV.out])
                go_wp2_with (at_builtin; refine wpList_append_int _ rfl (.tmp 92) (.tmp 93) 22 rfl wo.heap.size i0 Try.underlying22 HI0.out HZ0.out HZ1.out HZ2.out C q d2 _ rfl HN.out V vn vc _ rfl HO3.out (by omega) HW.out.size ?_; intro A8 c8 w8 hap)
                have hN := hap.own
                rw [← HAL.out, ← HT.out] at hN
                have hb8 := HW.out.grown hap.grown HW.out.size (fun t ht => (HN.out.lt t (by rw [ownBlock_len C q (q + vn) d2 d2]; exact ht)).1)
                clear hap
                have HN8 := hide hN
                have HW8 := hide hb8
                clear hN hb8
                have hjm := HJM.out
                go_roundw
                case rel => exact ⟨j + 1, q + vn, c8, A8, by omega, by go_num, rfl, HN8, HW8⟩
                case measure => simp [intOf]; omega
              · go_wp2_with fail
                refine (HIY.out _).mono ?_
                rintro e w' ⟨rfl, hww⟩
                subst hww
                have HAL : Hid (artL y z = [(i : Int) + 1]) := hide (by unfold artL; rw [if_neg (by omega), HV.out])
                go_wp2_with (at_builtin; refine wpList_append_int _ rfl (.tmp 92) (.tmp 93) 22 rfl wo.heap.size i0 Try.underlying22 HI0.out HZ0.out HZ1.out HZ2.out C q d2 _ rfl HN.out (some ⟨wr.heap.size, 0, none⟩) 1 1 _ rfl HS.out.il (by omega) HW.out.size ?_; intro A8 c8 w8 hap)
                have hN := hap.own
                rw [← HAL.out, ← HT.out] at hN
                have hb8 := HW.out.grown hap.grown HW.out.size (fun t ht => (HN.out.lt t (by rw [ownBlock_len C q (q + 1) d2 d2]; exact ht)).1)
                clear hap
                have HN8 := hide hN
                have HW8 := hide hb8
                clear hN hb8
                have hjm := HJM.out
                go_roundw
                case rel => exact ⟨j + 1, q + 1, c8, A8, by omega, by go_num, rfl, HN8, HW8⟩
                case measure => simp [intOf]; omega
            · by_cases hpi : p = i + 1
              · have HV : Hid (artV y z = [-(i : Int) - 1, (i : Int), (i : Int) + 1]) := hide (by unfold artV; rw [HP.out, HI.out, if_neg (by omega), if_neg (by omega), if_pos hpi])
                have hb : Below wr.heap.size wr (wr.alloc (.cells #[.int .i64 (-(i : Int) - 1), .int .i64 ((i : Int)), .int .i64 ((i : Int) + 1)] 3)) := (Below.refl _ _).alloc (Nat.le_refl _) _
                have HS := hide (SL.lit wr [-(i : Int) - 1, (i : Int), (i : Int) + 1] (by simp) (cs := #[.int .i64 (-(i : Int) - 1), .int .i64 ((i : Int)), .int .i64 ((i : Int) + 1)]) rfl (m := 3) rfl)
                have HBV : Hid (∀ x ∈ ([-(i : Int) - 1, (i : Int), (i : Int) + 1] : List Int), -1000 ≤ x ∧ x ≤ 1000) := hide (by intro x hx; simp at hx; omega)
                replace HN := hide (HN.out.below hb)
                replace HW := hide (HW.out.trans (hb.mono HW.out.size))
                clear hb
                have f1 : ((p : Int) == (i : Int)) = false := by simp; omega
                have f2 : ((p : Int) == (i : Int) + 1) = true := by simp; omega
                by_cases hzn : z < 0
                · go_wp2_with fail
                  refine (HIY.out _).mono ?_
                  rintro e w' ⟨rfl, hww⟩
                  subst hww
                  go_wp2_with fail
                  refine (HIY.out _).mono ?_
                  rintro e w' ⟨rfl, hww⟩
                  subst hww
                  go_wp2_with fail
                  refine (opposite_any _ 3 3 _ _ HS.out.il HBV.out).mono ?_
                  rintro e w3 ⟨V, vn, vc, rfl, ho, hb⟩
                  have HVL : Hid (vn ≤ 3) := hide (by rw [← ho.len, invw_length]; simp)
                  have hvl := HVL.out
                  replace HN := hide (HN.out.below hb)
                  replace HW := hide (HW.out.trans (hb.mono HW.out.size))
                  have HO3 := hide ho.sl.il
                  clear ho hb
                  have HAL : Hid (artL y z = invw [-(i : Int) - 1, (i : Int), (i : Int) + 1]) := hide (by unfold artL; rw [if_pos hzn, HV.out])
                  go_wp2_with (at_builtin; refine wpList_append_int _ rfl (.tmp 92) (.tmp 93) 22 rfl wo.heap.size i0 Try.underlying22 HI0.out HZ0.out HZ1.out HZ2.out C q d2 _ rfl HN.out V vn vc _ rfl HO3.out (by omega) HW.out.size ?_; intro A8 c8 w8 hap)
                  have hN := hap.own
                  rw [← HAL.out, ← HT.out] at hN
                  have hb8 := HW.out.grown hap.grown HW.out.size (fun t ht => (HN.out.lt t (by rw [ownBlock_len C q (q + vn) d2 d2]; exact ht)).1)
                  clear hap
                  have HN8 := hide hN
                  have HW8 := hide hb8
                  clear hN hb8
                  have hjm := HJM.out
                  go_roundw
                  case rel => exact ⟨j + 1, q + vn, c8, A8, by omega, by go_num, rfl, HN8, HW8⟩
                  case measure => simp [intOf]; omega
                · go_wp2_with fail
                  refine (HIY.out _).mono ?_
                  rintro e w' ⟨rfl, hww⟩
                  subst hww
                  go_wp2_with fail
                  refine (HIY.out _).mono ?_
                  rintro e w' ⟨rfl, hww⟩
                  subst hww
                  have HAL : Hid (artL y z = [-(i : Int) - 1, (i : Int), (i : Int) + 1]) := hide (by unfold artL; rw [if_neg (by omega), HV.out])
                  go_wp2_with (at_builtin; refine wpList_append_int _ rfl (.tmp 92) (.tmp 93) 22 rfl wo.heap.size i0 Try.underlying22 HI0.out HZ0.out HZ1.out HZ2.out C q d2 _ rfl HN.out (some ⟨wr.heap.size, 0, none⟩) 3 3 _ rfl HS.out.il (by omega) HW.out.size ?_; intro A8 c8 w8 hap)
                  have hN := hap.own
                  rw [← HAL.out, ← HT.out] at hN
                  have hb8 := HW.out.grown hap.grown HW.out.size (fun t ht => (HN.out.lt t (by rw [ownBlock_len C q (q + 3) d2 d2]; exact ht)).1)
                  clear hap
                  have HN8 := hide hN
                  have HW8 := hide hb8
                  clear hN hb8
                  have hjm := HJM.out
                  go_roundw
                  case rel => exact ⟨j + 1, q + 3, c8, A8, by omega, by go_num, rfl, HN8, HW8⟩
                  case measure => simp [intOf]; omega
              · have HV : Hid (artV y z = [(p : Int)]) := hide (by unfold artV; rw [HP.out, HI.out, if_neg (by omega), if_neg (by omega), if_neg (by omega)])
                have hb : Below wr.heap.size wr (wr.alloc (.cells #[.int .i64 ((p : Int))] 3)) := (Below.refl _ _).alloc (Nat.le_refl _) _
                have HS := hide (SL.lit wr [(p : Int)] (by simp) (cs := #[.int .i64 ((p : Int))]) rfl (m := 1) rfl)
                have HBV : Hid (∀ x ∈ ([(p : Int)] : List Int), -1000 ≤ x ∧ x ≤ 1000) := hide (by intro x hx; simp at hx; omega)
                replace HN := hide (HN.out.below hb)
                replace HW := hide (HW.out.trans (hb.mono HW.out.size))
                clear hb
                have f1 : ((p : Int) == (i : Int)) = false := by simp; omega
                have f2 : ((p : Int) == (i : Int) + 1) = false := by simp; omega
                by_cases hzn : z < 0
                · go_wp2_with fail
                  refine (HIY.out _).mono ?_
                  rintro e w' ⟨rfl, hww⟩
                  subst hww
                  go_wp2_with fail
                  refine (HIY.out _).mono ?_
                  rintro e w' ⟨rfl, hww⟩
                  subst hww
                  go_wp2_with fail
                  refine (HIY.out _).mono ?_
                  rintro e w' ⟨rfl, hww⟩
                  subst hww
                  go_wp2_with fail
                  refine (opposite_any _ 1 1 _ _ HS.out.il HBV.out).mono ?_
                  rintro e w3 ⟨V, vn, vc, rfl, ho, hb⟩
                  have HVL : Hid (vn ≤ 3) := hide (by rw [← ho.len, invw_length]; simp)
                  have hvl := HVL.out
                  replace HN := hide (HN.out.below hb)
                  replace HW := hide (HW.out.trans (hb.mono HW.out.size))
                  have HO3 := hide ho.sl.il
                  clear ho hb
                  have HAL : Hid (artL y z = invw [(p : Int)]) := hide (by unfold artL; rw [if_pos hzn, HV.out])
                  go_wp2_with (at_builtin; refine wpList_append_int _ rfl (.tmp 92) (.tmp 93) 22 rfl wo.heap.size i0 Try.underlying22 HI0.out HZ0.out HZ1.out HZ2.out C q d2 _ rfl HN.out V vn vc _ rfl HO3.out (by omega) HW.out.size ?_; intro A8 c8 w8 hap)
                  have hN := hap.own
                  rw [← HAL.out, ← HT.out] at hN
                  have hb8 := HW.out.grown hap.grown HW.out.size (fun t ht => (HN.out.lt t (by rw [ownBlock_len C q (q + vn) d2 d2]; exact ht)).1)
                  clear hap
                  have HN8 := hide hN
                  have HW8 := hide hb8
                  clear hN hb8
                  have hjm := HJM.out
                  go_roundw
                  case rel => exact ⟨j + 1, q + vn, c8, A8, by omega, by go_num, rfl, HN8, HW8⟩
                  case measure => simp [intOf]; omega
                · go_wp2_with fail
                  refine (HIY.out _).mono ?_
                  rintro e w' ⟨rfl, hww⟩
                  subst hww
                  go_wp2_with fail
                  refine (HIY.out _).mono ?_
                  rintro e w' ⟨rfl, hww⟩
                  subst hww
                  go_wp2_with fail
                  refine (HIY.out _).mono ?_
                  rintro e w' ⟨rfl, hww⟩
                  subst hww
                  have HAL : Hid (artL y z = [(p : Int)]) := hide (by unfold artL; rw [if_neg (by omega), HV.out])
                  go_wp2_with (at_builtin; refine wpList_append_int _ rfl (.tmp 92) (.tmp 93) 22 rfl wo.heap.size i0 Try.underlying22 HI0.out HZ0.out HZ1.out HZ2.out C q d2 _ rfl HN.out (some ⟨wr.heap.size, 0, none⟩) 1 1 _ rfl HS.out.il (by omega) HW.out.size ?_; intro A8 c8 w8 hap)
                  have hN := hap.own
                  rw [← HAL.out, ← HT.out] at hN
                  have hb8 := HW.out.grown hap.grown HW.out.size (fun t ht => (HN.out.lt t (by rw [ownBlock_len C q (q + 1) d2 d2]; exact ht)).1)
                  clear hap
                  have HN8 := hide hN
                  have HW8 := hide hb8
                  clear hN hb8
                  have hjm := HJM.out
                  go_roundw
                  case rel => exact ⟨j + 1, q + 1, c8, A8, by omega, by go_num, rfl, HN8, HW8⟩
                  case measure => simp [intOf]; omega
        · obtain rfl : j = m := by omega
          have hN := HN.out
          rw [List.take_of_length_le (by rw [HUL.out]; exact Nat.le_refl _)] at hN
          have HNN := hide hN
          have HQL := hide hN.len
          have HBZ := hide (artW_bz HYB.out HU.out)
          have HQ3 : Hid (q ≤ 3 * j) := hide (by
            have h2 := artW_len y u
            rw [HUL.out, HQL.out] at h2
            exact h2)
          clear hN
          go_wp2_with fail
          refine (short_any C q d2 _ _ HNN.out.il HNN.out.nil (fun z hz => by have := HBZ.out z hz; omega)).mono ?_
          rintro e w5 ⟨D, dn, dc, rfl, ho, hb⟩
          have HO5 := hide (ho.mono (HB.out.trans (HW.out.mono HB.out.size)).size)
          have HB5 := hide ((HB.out.trans (HW.out.mono HB.out.size)).trans (hb.mono (HB.out.trans (HW.out.mono HB.out.size)).size))
          have HZ5 := hide (fun z hz => HBZ.out z (nf_mem hz) : bz 900 (nf (artW y u)))
          have HL5 : Hid (dn ≤ 30000000000) := hide (by
            rw [← ho.len, HE2.out]
            exact HBD.out (k + 1) HLT.out)
          have hlt := HLT.out
          clear ho hb
          go_wp2_with fail
          go_roundw
          case rel => exact ⟨k + 1, dn, dc, D, nf (artW y u), by omega, by go_num, rfl, HO5, HE2, HZ5, HL5.out, HB5⟩
          case measure => simp [intOf]; omega
    · obtain rfl : k = n := by omega
      have HE3 : Hid (artF ys [x] = u) := hide (by rw [HE.out, List.take_of_length_le (by rw [HL.out]; exact Nat.le_refl _)])
      go_wp2_with fail
      go_ret
      exact ⟨B, m, d, rfl, by rw [HE3.out]; exact HO.out, HB.out⟩
theorem image_any (x : Int) (A : Option Addr) (n c : Nat) (ys : List Int) (w : World) (ha : SL w A n c ys) (hx : x ≠ 0 ∧ x.natAbs ≤ 900) (hy : ∀ y ∈ ys, y ≠ 0 ∧ y.natAbs ≤ 800) (hn : n ≤ 12) :
    Calls Try.prog 10 #[.int .i64 x, .slice A n c] w (GivesOwn w (artF ys [x])) :=
  image_big x A n c ys w ha hx hy fun k hk => by
    have h1 := artF_len' (ys.take k) [x]
    have h2 : 3 ^ (ys.take k).length ≤ 3 ^ 12 := Nat.pow_le_pow_right (by omega) (by rw [List.length_take]; omega)
    have h3 : (3 : Nat) ^ 12 = 531441 := by decide
    rw [h3] at h2
    generalize 3 ^ (ys.take k).length = Q at h1 h2
    simp at h1
    omega
end Go.Proofs.Ytihpmdfeonphpaa
/- slices.EqualFunc for lists of lists that are the same: timblaw1.lists, timbkeep1.ArtinRelations. -/
namespace Go.Proofs.Ytihpmdfeonphpaa
set_option linter.unusedVariables false
set_option linter.unusedSimpArgs false
open Go.RowKit

theorem ILL.two_blk {w : World} {g : Nat} {A B : Option Addr} {m d k e : Nat} {xs ys : List Int} (h : Blk w g 22 #[.slice A m d, .slice B k e]) (h1 : IL w A m xs) (h2 : IL w B k ys) : ILL w (some ⟨g, 0, none⟩) 2 [xs, ys] := by
  refine ⟨rfl, by omega, fun _ => ⟨⟨g, 0, none⟩, rfl, h.lt, fun j hj => ?_⟩⟩
  rw [add_zero_block]
  match j, hj with
  | 0, _ => exact ⟨A, m, d, h.cell 0, h1⟩
  | 1, _ => exact ⟨B, k, e, h.cell 1, h2⟩
theorem lists1_any (A B : Option Addr) (n m c d : Nat) (xs ys : List Int) (w : World) (ha : IL w A n xs) (hb : IL w B m ys) :
    Calls Try.prog 31 #[.slice A n c, .slice B m d] w fun e w' => e = .returned (.bool (eqB xs ys)) ∧ Below w.heap.size w w' := by
  have HC := hide (equal_any A B n m c d xs ys w ha hb)
  clear ha hb
  go_enter Try.func31, Try.ntmps31
  go_wp2_with fail
  refine HC.out.mono ?_
  rintro e w1 ⟨rfl, hb1⟩
  go_wp2
  go_ret
  exact ⟨rfl, hb1⟩

set_option maxHeartbeats 1000000 in
theorem equalFunc_yes (A B : Option Addr) (n m c d : Nat) (xss : List (List Int)) (w : World) (ha : ILL w A n xss) (hb : ILL w B m xss) :
    Calls Try.prog 23 #[.slice A n c, .slice B m d, .func (.func 31) #[] #[]] w fun e w' => e = .returned (.bool true) ∧ Below w.heap.size w w' := by
  have hnm : n = m := by rw [← ha.len, ← hb.len]
  subst hnm
  have hsm := ha.small
  go_enter Try.func23, Try.ntmps23
  go_wp2
  go_loopw [17] (fun i wr => ∃ k : Nat, k ≤ n ∧ i = .int .i64 k ∧ Below w.heap.size w wr) (fun i _ => n - (intOf i).toNat)
  case atStart => exact ⟨0, Nat.zero_le _, rfl, Below.refl _ _⟩
  case round =>
    obtain ⟨k, hk, rfl, hnx⟩ := hrel
    have ha' := ha.below hnx
    have hb' := hb.below hnx
    have HA := hide (And.intro ha hb)
    clear ha hb
    by_cases hlt : k < n
    · obtain ⟨ad, B8, m8, d8, rfl, hc8, hi8⟩ := ha'.at_ hlt
      obtain ⟨bd, B9, m9, d9, rfl, hc9, hi9⟩ := hb'.at_ hlt
      have HC := hide (lists1_any B8 B9 m8 m9 d8 d9 _ _ wr hi8 hi9)
      have HE : Hid (eqB (xss.getD k []) (xss.getD k []) = true) := eqB_true rfl
      rw [HE.out] at HC
      clear ha' hb' hi8 hi9
      go_wp2_with fail
      refine HC.out.mono ?_
      rintro e w2 ⟨rfl, hb2⟩
      have hb02 := hnx.trans (hb2.mono hnx.size)
      clear hb2
      go_wp2
      go_roundw
      case rel => exact ⟨k + 1, by omega, by go_num, hb02⟩
      case measure => simp [intOf]; omega
    · go_wp2
      go_ret
      exact ⟨rfl, hnx⟩

set_option maxHeartbeats 1000000 in
theorem lists_yes (A B : Option Addr) (n m c d : Nat) (xss : List (List Int)) (w : World) (ha : ILL w A n xss) (hb : ILL w B m xss) :
    Calls Try.prog 8 #[.slice A n c, .slice B m d] w fun e w' => e = .returned (.bool true) ∧ Below w.heap.size w w' := by
  have HC := hide (equalFunc_yes A B n m c d xss w ha hb)
  clear ha hb
  go_enter Try.func8, Try.ntmps8
  go_wp2_with fail
  refine HC.out.mono ?_
  rintro e w1 ⟨rfl, hb1⟩
  go_wp2
  go_ret
  exact ⟨rfl, hb1⟩
theorem arel1_any (A B : Option Addr) (n m c d : Nat) (xs ys : List Int) (w : World) (ha : IL w A n xs) (hb : IL w B m ys) :
    Calls Try.prog 24 #[.slice A n c, .slice B m d] w fun e w' => e = .returned (.bool (eqB xs ys)) ∧ Below w.heap.size w w' := by
  have HC := hide (equal_any A B n m c d xs ys w ha hb)
  clear ha hb
  go_enter Try.func24, Try.ntmps24
  go_wp2_with fail
  refine HC.out.mono ?_
  rintro e w1 ⟨rfl, hb1⟩
  go_wp2
  go_ret
  exact ⟨rfl, hb1⟩

set_option maxHeartbeats 1000000 in
theorem arelFunc_yes (A B : Option Addr) (n m c d : Nat) (xss : List (List Int)) (w : World) (ha : ILL w A n xss) (hb : ILL w B m xss) :
    Calls Try.prog 23 #[.slice A n c, .slice B m d, .func (.func 24) #[] #[]] w fun e w' => e = .returned (.bool true) ∧ Below w.heap.size w w' := by
  have hnm : n = m := by rw [← ha.len, ← hb.len]
  subst hnm
  have hsm := ha.small
  go_enter Try.func23, Try.ntmps23
  go_wp2
  go_loopw [17] (fun i wr => ∃ k : Nat, k ≤ n ∧ i = .int .i64 k ∧ Below w.heap.size w wr) (fun i _ => n - (intOf i).toNat)
  case atStart => exact ⟨0, Nat.zero_le _, rfl, Below.refl _ _⟩
  case round =>
    obtain ⟨k, hk, rfl, hnx⟩ := hrel
    have ha' := ha.below hnx
    have hb' := hb.below hnx
    have HA := hide (And.intro ha hb)
    clear ha hb
    by_cases hlt : k < n
    · obtain ⟨ad, B8, m8, d8, rfl, hc8, hi8⟩ := ha'.at_ hlt
      obtain ⟨bd, B9, m9, d9, rfl, hc9, hi9⟩ := hb'.at_ hlt
      have HC := hide (arel1_any B8 B9 m8 m9 d8 d9 _ _ wr hi8 hi9)
      have HE : Hid (eqB (xss.getD k []) (xss.getD k []) = true) := eqB_true rfl
      rw [HE.out] at HC
      clear ha' hb' hi8 hi9
      go_wp2_with fail
      refine HC.out.mono ?_
      rintro e w2 ⟨rfl, hb2⟩
      have hb02 := hnx.trans (hb2.mono hnx.size)
      clear hb2
      go_wp2
      go_roundw
      case rel => exact ⟨k + 1, by omega, by go_num, hb02⟩
      case measure => simp [intOf]; omega
    · go_wp2
      go_ret
      exact ⟨rfl, hnx⟩

end Go.Proofs.Ytihpmdfeonphpaa
/- A slice of rows that the call itself builds, row by row. -/
namespace Go.Proofs.Ytihpmdfeonphpaa
set_option linter.unusedVariables false
set_option linter.unusedSimpArgs false
open Go.RowKit

structure MSt (w0 w : World) (A : Option Addr) (n c : Nat) (vs : List Value) (xss : List (List Int)) : Prop where
  own : OwnV w w0.heap.size A n c vs
  rows : RowsI w w0.heap.size vs xss
  below : Below w0.heap.size w0 w
section
variable {w0 w w' : World} {A : Option Addr} {n c : Nat} {vs : List Value} {xss : List (List Int)}
theorem MSt.start (w0 : World) : MSt w0 w0 none 0 0 [] [] := ⟨OwnV.nil_ _ _, RowsI.nil_ _ _, Below.refl _ _⟩
theorem MSt.to (h : MSt w0 w A n c vs xss) (hb : Below w.heap.size w w') : MSt w0 w' A n c vs xss :=
  ⟨h.own.keep (KeepT.below hb), h.rows.keep (KeepT.below hb), h.below.trans (hb.mono h.below.size)⟩
theorem MSt.add {w9 : World} {B A9 : Option Addr} {m d c9 : Nat} {xs : List Int} (h : MSt w0 w A n c vs xss) (hc : OwnI w w0.heap.size B m d xs)
    (happ : AppendedV (w.alloc (.cells #[.slice B m d] 22)) w0.heap.size A (n + 1) c (vs ++ [.slice B m d]) A9 c9 w9) : MSt w0 w9 A9 (n + 1) c9 (vs ++ [.slice B m d]) (xss ++ [xs]) := by
  have hblk : ∀ g, (Value.slice A (n + 1) c).ownBlock = some g → w0.heap.size ≤ g ∧ g < w.heap.size ∧ ∃ (cs : Array Value), w.heap[g]? = some (.cells cs 22 (0, 0)) := by
    intro g hg
    rw [ownBlock_len A (n + 1) n c c] at hg
    obtain ⟨h1, h2⟩ := h.own.lt g hg
    refine ⟨h1, h2, ?_⟩
    rcases h.own.own.2 with ⟨hv, _⟩ | ⟨g', cap, cur, hv, _, hh, _⟩
    · rw [hv] at hg; cases hg
    · rw [hv] at hg
      injection hg with hg
      subst hg
      exact ⟨cur, hh⟩
  have k3 : KeepT 3 w w9 := (KeepT.alloc w _).trans (KeepT.grown happ.grown (fun g hg => by
    obtain ⟨_, h2, cs, h3⟩ := hblk g hg
    exact ⟨22, cs, (Below.heap_alloc w _ g h2).trans h3, by decide⟩))
  exact ⟨happ.own, (h.rows.keep k3).snoc (k3.ownI hc), (h.below.alloc h.below.size _).grown happ.grown (Nat.le_trans h.below.size (by simp)) (fun g hg => (hblk g hg).1)⟩
theorem MSt.sll (h : MSt w0 w A n c vs xss) : SLL w A n c xss := SLL.of_rows h.own h.rows
theorem MSt.len (h : MSt w0 w A n c vs xss) : xss.length = n := by rw [← h.rows.len]; exact h.own.len
end
theorem rows_info : (Try.prog.info? 22).map (fun i => (i.zero, i.size, i.bytes)) = some (some (.slice none 0 0), 1, 24) := by kernel_rfl
end Go.Proofs.Ytihpmdfeonphpaa
