/- Several texts in one. -/
import Derived.Test.YtoaiblhlpdaeoaaBase1
import Derived.Test.YtoaiblhlpdaeoaaPart2
import Derived.Test.YtoaiblhlpdaeoaaPart1
/- timbref1.Image. (Written by tools/gen_image.py.) -/
namespace Go.Proofs.Ytoaiblhlpdaeoaa
set_option linter.unusedVariables false
set_option linter.unusedSimpArgs false
open Go.RowKit

def bz (B : Nat) (u : List Int) : Prop := ∀ z ∈ u, z ≠ 0 ∧ z.natAbs ≤ B
theorem bz.nz {B : Nat} {u : List Int} (h : bz B u) : Proofs.Ytoaiblhlpdaeoaa.nz u := fun z hz => (h z hz).1
theorem bz.inv {B : Nat} {u : List Int} (h : bz B u) : bz B (invw u) := fun z hz => by
  have : ∃ x ∈ u, -x = z := by simpa [invw] using hz
  obtain ⟨x, hx, rfl⟩ := this
  have := h x hx
  omega
theorem artV_bz {y z : Int} (hy : y ≠ 0 ∧ y.natAbs ≤ 800) (hz : z ≠ 0 ∧ z.natAbs ≤ 900) : bz 900 (artV y z) := by
  unfold artV
  intro x hx
  split at hx <;> split at hx <;> (try split at hx) <;> simp at hx <;> omega
theorem artL_bz {y z : Int} (hy : y ≠ 0 ∧ y.natAbs ≤ 800) (hz : z ≠ 0 ∧ z.natAbs ≤ 900) : bz 900 (artL y z) := by
  unfold artL
  split
  · exact (artV_bz hy hz).inv
  · exact artV_bz hy hz
theorem artW_bz {y : Int} (hy : y ≠ 0 ∧ y.natAbs ≤ 800) {u : List Int} (hu : bz 900 u) : bz 900 (artW y u) := fun x hx => by
  obtain ⟨z, hz, h⟩ := List.mem_flatMap.1 hx
  exact artL_bz hy (hu z hz) x h
theorem artV_len (y z : Int) : (artV y z).length ≤ 3 := by
  unfold artV
  split <;> split <;> (try split) <;> simp
theorem artL_len (y z : Int) : (artL y z).length ≤ 3 := by
  unfold artL
  split
  · rw [invw_length]; exact artV_len y z
  · exact artV_len y z
theorem artW_len (y : Int) : ∀ u : List Int, (artW y u).length ≤ 3 * u.length
  | [] => Nat.le_refl _
  | z :: u => by
    rw [artW_cons, List.length_append, List.length_cons]
    have := artL_len y z
    have := artW_len y u
    omega
theorem artW_take {y : Int} {u : List Int} {j : Nat} (hj : j < u.length) : artW y (u.take (j + 1)) = artW y (u.take j) ++ artL y (u.getD j 0) := by
  rw [List.take_succ_eq_append_getElem hj, artW_append, artW_one, show u.getD j 0 = u[j] by simp [List.getD, List.getElem?_eq_getElem hj]]

theorem artF_len' : ∀ (w u : List Int), (artF w u).length ≤ u.length * 3 ^ w.length
  | [], u => by show u.length ≤ _; simp
  | y :: w, u => by
    show (artF w (nf (artW y u))).length ≤ _
    have h1 := artF_len' w (nf (artW y u))
    have h2 := nf_len_le (artW y u)
    have h3 := artW_len y u
    have h4 : (nf (artW y u)).length * 3 ^ w.length ≤ (3 * u.length) * 3 ^ w.length := Nat.mul_le_mul_right _ (by omega)
    rw [List.length_cons, Nat.pow_succ, Nat.mul_comm (3 ^ w.length), ← Nat.mul_assoc, Nat.mul_comm u.length]
    omega
theorem artF_snoc (w : List Int) (y : Int) (u : List Int) : artF (w ++ [y]) u = nf (artW y (artF w u)) := by unfold artF; rw [List.foldl_append]; rfl
set_option maxRecDepth 100000 in
set_option maxHeartbeats 16000000 in
theorem image_big (x : Int) (A : Option Addr) (n c : Nat) (ys : List Int) (w : World) (ha : SL w A n c ys) (hx : x ≠ 0 ∧ x.natAbs ≤ 900) (hy : ∀ y ∈ ys, y ≠ 0 ∧ y.natAbs ≤ 800) (hbd : ∀ k, k ≤ n → (artF (ys.take k) [x]).length ≤ 30000000000) :
    Calls Try.prog 58 #[.int .i64 x, .slice A n c] w (GivesOwn w (artF ys [x])) := by
  obtain ⟨i0, hi0, hz0, hz1, hz2⟩ := info_parts int_info
  have HI0 := hide hi0
  have HZ0 := hide hz0
  have HZ1 := hide hz1
  have HZ2 := hide hz2
  have HA := hide ha
  have HL := hide ha.il.len
  have HX := hide hx
  have HY := hide hy
  have HBD := hide hbd
  have hns := ha.il.small
  clear ha hi0 hz0 hz1 hz2 hx hy hbd
  go_enter Try.func58, Try.ntmps58
  go_wp2_with fail
  have hO : OwnI (w.alloc (.cells #[.int .i64 x] 3)) w.heap.size (some ⟨w.heap.size, 0, none⟩) 1 1 [x] := by
    exact ⟨⟨rfl, .inr ⟨w.heap.size, 1, #[.int .i64 x], rfl, Nat.le_refl _, heap_alloc_new w _, by omega, by unfold maxLen; omega, rfl, rfl⟩⟩, by omega⟩
  have hB : Below w.heap.size w (w.alloc (.cells #[.int .i64 x] 3)) := (Below.refl _ _).alloc (Nat.le_refl _) _
  go_loopw [5, 17] (fun ov iv wr => ∃ (k m d : Nat) (B : Option Addr) (u : List Int), k ≤ n ∧ iv = .int .i64 k ∧ ov = .slice B m d ∧ Hid (OwnI wr w.heap.size B m d u) ∧ Hid (u = artF (ys.take k) [x]) ∧ Hid (bz 900 u) ∧ m ≤ 30000000000 ∧ Hid (Below w.heap.size w wr)) (fun _ iv _ => n - (intOf iv).toNat)
  case atStart => exact ⟨0, 1, 1, _, [x], Nat.zero_le _, rfl, rfl, hide hO, hide rfl, hide (fun z hz => by simp at hz; subst hz; exact HX.out), by omega, hide hB⟩
  case round =>
    clear hO hB
    obtain ⟨k, m, d, B, u, hk, rfl, rfl, HO, HE, HU, hm, HB⟩ := hrel
    by_cases hlt : k < n
    · obtain ⟨ad, rfl, hcl⟩ := (HA.out.below HB.out).il.at_ hlt
      have hkl : k < ys.length := by rw [HL.out]; exact hlt
      obtain ⟨y, hyy⟩ : ∃ y, ys.getD k 0 = y := ⟨_, rfl⟩
      rw [hyy] at hcl
      have hym : y ∈ ys := by rw [← hyy]; simp [List.getD, List.getElem?_eq_getElem hkl]
      have hyb := HY.out y hym
      have HYB := hide hyb
      have HE2 : Hid (nf (artW y u) = artF (ys.take (k + 1)) [x]) := hide (by
        rw [List.take_succ_eq_append_getElem hkl, artF_snoc, show ys[k] = y by rw [← hyy]; simp [List.getD, List.getElem?_eq_getElem hkl], ← HE.out])
      have HIX := hide (fun (w : World) => index_any_ y w (by omega))
      obtain ⟨i, hi⟩ : ∃ i, y.natAbs = i := ⟨_, rfl⟩
      rw [hi] at HIX
      have HI := hide hi
      have hi8 : 1 ≤ i ∧ i ≤ 800 := by omega
      have HLT := hide hlt
      have HK := hide hk
      have HM := hide hm
      have hm6 : m ≤ 30000000000 := hm
      have hm7 : 3 * m ≤ 90000000000 := by omega
      have HUL := hide HO.out.len
      have HSU := hide HO.out.sl
      clear hyy hym hyb hi hk hm hkl
      go_wp2_with fail
      refine (HIX.out _).mono ?_
      rintro e w' ⟨rfl, rfl⟩
      go_wp2_with fail
      rename World => wo
      have HN0 : Hid (OwnI wo wo.heap.size none 0 0 (artW y (u.take 0))) := hide (OwnI.nil_ _ _)
      have HW0 := hide (Below.refl wo.heap.size wo)
      clear hcl
      go_loopw [9, 25] (fun ov iv wr => ∃ (j q d2 : Nat) (C : Option Addr), j ≤ m ∧ iv = .int .i64 j ∧ ov = .slice C q d2 ∧ Hid (OwnI wr wo.heap.size C q d2 (artW y (u.take j))) ∧ Hid (Below wo.heap.size wo wr)) (fun _ iv _ => m - (intOf iv).toNat)
      case atStart => exact ⟨0, 0, 0, none, Nat.zero_le _, rfl, rfl, HN0, HW0⟩
      case round =>
        clear HN0 HW0
        obtain ⟨j, q, d2, C, hj, rfl, rfl, HN, HW⟩ := hrel
        by_cases hjm : j < m
        · obtain ⟨ad2, rfl, hcl⟩ := (HSU.out.below HW.out).il.at_ hjm
          have hju : j < u.length := by rw [HUL.out]; exact hjm
          have hzb := HU.out (u.getD j 0) (by simp [List.getD, List.getElem?_eq_getElem hju])
          have HT := hide (artW_take (y := y) hju)
          have hq3 : q ≤ 3 * j := by
            have h1 := HN.out.len
            have h2 := artW_len y (u.take j)
            rw [List.length_take] at h2
            omega
          have hqs : q + 3 ≤ 90000000000 := by omega
          obtain ⟨z, hz⟩ : ∃ z, u.getD j 0 = z := ⟨_, rfl⟩
          rw [hz] at hcl hzb HT
          have HZB := hide hzb
          have HIY := hide (fun (w : World) => index_any_ z w (by omega))
          obtain ⟨p, hp⟩ : ∃ p, z.natAbs = p := ⟨_, rfl⟩
          rw [hp] at HIY
          have hp9 : 1 ≤ p ∧ p ≤ 900 := by omega
          have HP := hide hp
          have hy0 := HYB.out.1
          have HJ := hide hj
          have HJM := hide hjm
          clear hz hp hzb hju hq3
          by_cases hy : 0 < y
          · by_cases hpi : p = i
            · have HV : Hid (artV y z = [(i : Int), (i : Int) + 1, -(i : Int)]) := hide (by unfold artV; rw [HP.out, HI.out, if_pos hy, if_pos hpi])
              have hb : Below wr.heap.size wr (wr.alloc (.cells #[.int .i64 ((i : Int)), .int .i64 ((i : Int) + 1), .int .i64 (-(i : Int))] 3)) := (Below.refl _ _).alloc (Nat.le_refl _) _
              have HS := hide (SL.lit wr [(i : Int), (i : Int) + 1, -(i : Int)] (by simp) (cs := #[.int .i64 ((i : Int)), .int .i64 ((i : Int) + 1), .int .i64 (-(i : Int))]) rfl (m := 3) rfl)
              have HBV : Hid (∀ x ∈ ([(i : Int), (i : Int) + 1, -(i : Int)] : List Int), -1000 ≤ x ∧ x ≤ 1000) := hide (by intro x hx; simp at hx; omega)
              replace HN := hide (HN.out.below hb)
              replace HW := hide (HW.out.trans (hb.mono HW.out.size))
              clear hb
              have f1 : ((p : Int) == (i : Int)) = true := by simp; omega
              by_cases hzn : z < 0
              · go_wp2_with fail
                refine (HIY.out _).mono ?_
                rintro e w' ⟨rfl, hww⟩
                subst hww
                go_wp2_with fail
                refine (opposite_any _ 3 3 _ _ HS.out.il HBV.out).mono ?_
                rintro e w3 ⟨V, vn, vc, rfl, ho, hb⟩
                have HVL : Hid (vn ≤ 3) := hide (by rw [← ho.len, invw_length]; simp)
                have hvl := HVL.out
                replace HN := hide (HN.out.below hb)
                replace HW := hide (HW.out.trans (hb.mono HW.out.size))
                have HO3 := hide ho.sl.il
                clear ho hb
                have HAL : Hid (artL y z = invw [(i : Int), (i : Int) + 1, -(i : Int)]) := hide (by unfold artL; rw [if_pos hzn, HV.out])
                go_wp2_with (at_builtin; refine wpList_append_int _ rfl (.tmp 92) (.tmp 93) 22 rfl wo.heap.size i0 Try.underlying22 HI0.out HZ0.out HZ1.out HZ2.out C q d2 _ rfl HN.out V vn vc _ rfl HO3.out (by omega) HW.out.size ?_; intro A8 c8 w8 hap)
                have hN := hap.own
                rw [← HAL.out, ← HT.out] at hN
                have hb8 := HW.out.grown hap.grown HW.out.size (fun t ht => (HN.out.lt t (by rw [ownBlock_len C q (q + vn) d2 d2]; exact ht)).1)
                clear hap
                have HN8 := hide hN
                have HW8 := hide hb8
                clear hN hb8
                have hjm := HJM.out
                go_roundw
                case rel => exact ⟨j + 1, q + vn, c8, A8, by omega, by go_num, rfl, HN8, HW8⟩
                case measure => simp [intOf]; omega
              · go_wp2_with fail
                refine (HIY.out _).mono ?_
                rintro e w' ⟨rfl, hww⟩
                subst hww
                have HAL : Hid (artL y z = [(i : Int), (i : Int) + 1, -(i : Int)]) := hide (by unfold artL; rw [if_neg (by omega), HV.out])
                go_wp2_with (at_builtin; refine wpList_append_int _ rfl (.tmp 92) (.tmp 93) 22 rfl wo.heap.size i0 Try.underlying22 HI0.out HZ0.out HZ1.out HZ2.out C q d2 _ rfl HN.out (some ⟨wr.heap.size, 0, none⟩) 3 3 _ rfl HS.out.il (by omega) HW.out.size ?_; intro A8 c8 w8 hap)
                have hN := hap.own
                rw [← HAL.out, ← HT.out] at hN
                have hb8 := HW.out.grown hap.grown HW.out.size (fun t ht => (HN.out.lt t (by rw [ownBlock_len C q (q + 3) d2 d2]; exact ht)).1)
                clear hap
                have HN8 := hide hN
                have HW8 := hide hb8
                clear hN hb8
                have hjm := HJM.out
                go_roundw
                case rel => exact ⟨j + 1, q + 3, c8, A8, by omega, by go_num, rfl, HN8, HW8⟩
                case measure => simp [intOf]; omega
            · by_cases hpi : p = i + 1
              · have HV : Hid (artV y z = [(i : Int)]) := hide (by unfold artV; rw [HP.out, HI.out, if_pos hy, if_neg (by omega), if_pos hpi])
                have hb : Below wr.heap.size wr (wr.alloc (.cells #[.int .i64 ((i : Int))] 3)) := (Below.refl _ _).alloc (Nat.le_refl _) _
                have HS := hide (SL.lit wr [(i : Int)] (by simp) (cs := #[.int .i64 ((i : Int))]) rfl (m := 1) rfl)
                have HBV : Hid (∀ x ∈ ([(i : Int)] : List Int), -1000 ≤ x ∧ x ≤ 1000) := hide (by intro x hx; simp at hx; omega)
                replace HN := hide (HN.out.below hb)
                replace HW := hide (HW.out.trans (hb.mono HW.out.size))
                clear hb
                have f1 : ((p : Int) == (i : Int)) = false := by simp; omega
                have f2 : ((p : Int) == (i : Int) + 1) = true := by simp; omega
                by_cases hzn : z < 0
                · go_wp2_with fail
                  refine (HIY.out _).mono ?_
                  rintro e w' ⟨rfl, hww⟩
                  subst hww
                  go_wp2_with fail
                  refine (HIY.out _).mono ?_
                  rintro e w' ⟨rfl, hww⟩
                  subst hww
                  go_wp2_with fail
                  refine (opposite_any _ 1 1 _ _ HS.out.il HBV.out).mono ?_
                  rintro e w3 ⟨V, vn, vc, rfl, ho, hb⟩
                  have HVL : Hid (vn ≤ 3) := hide (by rw [← ho.len, invw_length]; simp)
                  have hvl := HVL.out
                  replace HN := hide (HN.out.below hb)
                  replace HW := hide (HW.out.trans (hb.mono HW.out.size))
                  have HO3 := hide ho.sl.il
                  clear ho hb
                  have HAL : Hid (artL y z = invw [(i : Int)]) := hide (by unfold artL; rw [if_pos hzn, HV.out])
                  go_wp2_with (at_builtin; refine wpList_append_int _ rfl (.tmp 92) (.tmp 93) 22 rfl wo.heap.size i0 Try.underlying22 HI0.out HZ0.out HZ1.out HZ2.out C q d2 _ rfl HN.out V vn vc _ rfl HO3.out (by omega) HW.out.size ?_; intro A8 c8 w8 hap)
                  have hN := hap.own
                  rw [← HAL.out, ← HT.out] at hN
                  have hb8 := HW.out.grown hap.grown HW.out.size (fun t ht => (HN.out.lt t (by rw [ownBlock_len C q (q + vn) d2 d2]; exact ht)).1)
                  clear hap
                  have HN8 := hide hN
                  have HW8 := hide hb8
                  clear hN hb8
                  have hjm := HJM.out
                  go_roundw
                  case rel => exact ⟨j + 1, q + vn, c8, A8, by omega, by go_num, rfl, HN8, HW8⟩
                  case measure => simp [intOf]; omega
                · go_wp2_with fail
                  refine (HIY.out _).mono ?_
                  rintro e w' ⟨rfl, hww⟩
                  subst hww
                  go_wp2_with fail
                  refine (HIY.out _).mono ?_
                  rintro e w' ⟨rfl, hww⟩
                  subst hww
                  have HAL : Hid (artL y z = [(i : Int)]) := hide (by unfold artL; rw [if_neg (by omega), HV.out])
                  go_wp2_with (at_builtin; refine wpList_append_int _ rfl (.tmp 92) (.tmp 93) 22 rfl wo.heap.size i0 Try.underlying22 HI0.out HZ0.out HZ1.out HZ2.out C q d2 _ rfl HN.out (some ⟨wr.heap.size, 0, none⟩) 1 1 _ rfl HS.out.il (by omega) HW.out.size ?_; intro A8 c8 w8 hap)
                  have hN := hap.own
                  rw [← HAL.out, ← HT.out] at hN
                  have hb8 := HW.out.grown hap.grown HW.out.size (fun t ht => (HN.out.lt t (by rw [ownBlock_len C q (q + 1) d2 d2]; exact ht)).1)
                  clear hap
                  have HN8 := hide hN
                  have HW8 := hide hb8
                  clear hN hb8
                  have hjm := HJM.out
                  go_roundw
                  case rel => exact ⟨j + 1, q + 1, c8, A8, by omega, by go_num, rfl, HN8, HW8⟩
                  case measure => simp [intOf]; omega
              · have HV : Hid (artV y z = [(p : Int)]) := hide (by unfold artV; rw [HP.out, HI.out, if_pos hy, if_neg (by omega), if_neg (by omega)])
                have hb : Below wr.heap.size wr (wr.alloc (.cells #[.int .i64 ((p : Int))] 3)) := (Below.refl _ _).alloc (Nat.le_refl _) _
                have HS := hide (SL.lit wr [(p : Int)] (by simp) (cs := #[.int .i64 ((p : Int))]) rfl (m := 1) rfl)
                have HBV : Hid (∀ x ∈ ([(p : Int)] : List Int), -1000 ≤ x ∧ x ≤ 1000) := hide (by intro x hx; simp at hx; omega)
                replace HN := hide (HN.out.below hb)
                replace HW := hide (HW.out.trans (hb.mono HW.out.size))
                clear hb
                have f1 : ((p : Int) == (i : Int)) = false := by simp; omega
                have f2 : ((p : Int) == (i : Int) + 1) = false := by simp; omega
                by_cases hzn : z < 0
                · go_wp2_with fail
                  refine (HIY.out _).mono ?_
                  rintro e w' ⟨rfl, hww⟩
                  subst hww
                  go_wp2_with fail
                  refine (HIY.out _).mono ?_
                  rintro e w' ⟨rfl, hww⟩
                  subst hww
                  go_wp2_with fail
                  refine (HIY.out _).mono ?_
                  rintro e w' ⟨rfl, hww⟩
                  subst hww
                  go_wp2_with fail
                  refine (opposite_any _ 1 1 _ _ HS.out.il HBV.out).mono ?_
                  rintro e w3 ⟨V, vn, vc, rfl, ho, hb⟩
                  have HVL : Hid (vn ≤ 3) := hide (by rw [← ho.len, invw_length]; simp)
                  have hvl := HVL.out
                  replace HN := hide (HN.out.below hb)
                  replace HW := hide (HW.out.trans (hb.mono HW.out.size))
                  have HO3 := hide ho.sl.il
                  clear ho hb
                  have HAL : Hid (artL y z = invw [(p : Int)]) := hide (by unfold artL; rw [if_pos hzn, HV.out])
                  go_wp2_with (at_builtin; refine wpList_append_int _ rfl (.tmp 92) (.tmp 93) 22 rfl wo.heap.size i0 Try.underlying22 HI0.out HZ0.out HZ1.out HZ2.out C q d2 _ rfl HN.out V vn vc _ rfl HO3.out (by omega) HW.out.size ?_; intro A8 c8 w8 hap)
                  have hN := hap.own
                  rw [← HAL.out, ← HT.out] at hN
                  have hb8 := HW.out.grown hap.grown HW.out.size (fun t ht => (HN.out.lt t (by rw [ownBlock_len C q (q + vn) d2 d2]; exact ht)).1)
                  clear hap
                  have HN8 := hide hN
                  have HW8 := hide hb8
                  clear hN hb8
                  have hjm := HJM.out
                  go_roundw
                  case rel => exact ⟨j + 1, q + vn, c8, A8, by omega, by go_num, rfl, HN8, HW8⟩
                  case measure => simp [intOf]; omega
                · go_wp2_with fail
                  refine (HIY.out _).mono ?_
                  rintro e w' ⟨rfl, hww⟩
                  subst hww
                  go_wp2_with fail
                  refine (HIY.out _).mono ?_
                  rintro e w' ⟨rfl, hww⟩
                  subst hww
                  go_wp2_with fail
                  refine (HIY.out _).mono ?_
                  rintro e w' ⟨rfl, hww⟩
                  subst hww
                  have HAL : Hid (artL y z = [(p : Int)]) := hide (by unfold artL; rw [if_neg (by omega), HV.out])
                  go_wp2_with (at_builtin; refine wpList_append_int _ rfl (.tmp 92) (.tmp 93) 22 rfl wo.heap.size i0 Try.underlying22 HI0.out HZ0.out HZ1.out HZ2.out C q d2 _ rfl HN.out (some ⟨wr.heap.size, 0, none⟩) 1 1 _ rfl HS.out.il (by omega) HW.out.size ?_; intro A8 c8 w8 hap)
                  have hN := hap.own
                  rw [← HAL.out, ← HT.out] at hN
                  have hb8 := HW.out.grown hap.grown HW.out.size (fun t ht => (HN.out.lt t (by rw [ownBlock_len C q (q + 1) d2 d2]; exact ht)).1)
                  clear hap
                  have HN8 := hide hN
                  have HW8 := hide hb8
                  clear hN hb8
                  have hjm := HJM.out
                  go_roundw
                  case rel => exact ⟨j + 1, q + 1, c8, A8, by omega, by go_num, rfl, HN8, HW8⟩
                  case measure => simp [intOf]; omega
          · have hyn : y < 0 := by omega
            by_cases hpi : p = i
            · have HV : Hid (artV y z = [(i : Int) + 1]) := hide (by unfold artV; rw [HP.out, HI.out, if_neg (by omega), if_pos hpi])
              have hb : Below wr.heap.size wr (wr.alloc (.cells #[.int .i64 ((i : Int) + 1)] 3)) := (Below.refl _ _).alloc (Nat.le_refl _) _
              have HS := hide (SL.lit wr [(i : Int) + 1] (by simp) (cs := #[.int .i64 ((i : Int) + 1)]) rfl (m := 1) rfl)
              have HBV : Hid (∀ x ∈ ([(i : Int) + 1] : List Int), -1000 ≤ x ∧ x ≤ 1000) := hide (by intro x hx; simp at hx; omega)
              replace HN := hide (HN.out.below hb)
              replace HW := hide (HW.out.trans (hb.mono HW.out.size))
              clear hb
              have f1 : ((p : Int) == (i : Int)) = true := by simp; omega
              by_cases hzn : z < 0
              · go_wp2_with fail
                refine (HIY.out _).mono ?_
                rintro e w' ⟨rfl, hww⟩
                subst hww
                go_wp2_with fail
                refine (opposite_any _ 1 1 _ _ HS.out.il HBV.out).mono ?_
                rintro e w3 ⟨V, vn, vc, rfl, ho, hb⟩
                have HVL : Hid (vn ≤ 3) := hide (by rw [← ho.len, invw_length]; simp)
                have hvl := HVL.out
                replace HN := hide (HN.out.below hb)
                replace HW := hide (HW.out.trans (hb.mono HW.out.size))
                have HO3 := hide ho.sl.il
                clear ho hb
                have HAL : Hid (artL y z = invw [(i : Int) + 1]) := hide (by unfold artL; rw [if_pos hzn, HV.out])
                go_wp2_with (at_builtin; refine wpList_append_int _ rfl (.tmp 92) (.tmp 93) 22 rfl wo.heap.size i0 Try.underlying22 HI0.out HZ0.out HZ1.out HZ2.out C q d2 _ rfl HN.out V vn vc _ rfl HO3.out (by omega) HW.out.size ?_; intro A8 c8 w8 hap)
                have hN := hap.own
                rw [← HAL.out, ← HT.out] at hN
                have hb8 := HW.out.grown hap.grown HW.out.size (fun t ht => (HN.out.lt t (by rw [ownBlock_len C q (q + vn) d2 d2]; exact ht)).1)
                clear hap
                have HN8 := hide hN
                have HW8 := hide hb8
                clear hN hb8
                have hjm := HJM.out
                go_roundw
                case rel => exact ⟨j + 1, q + vn, c8, A8, by omega, by go_num, rfl, HN8, HW8⟩
                case measure => simp [intOf]; omega
              · go_wp2_with fail
                refine (HIY.out _).mono ?_
                rintro e w' ⟨rfl, hww⟩
                subst hww
                have HAL : Hid (artL y z = [(i : Int) + 1]) := hide (by unfold artL; rw [if_neg (by omega), HV.out])
                go_wp2_with (at_builtin; refine wpList_append_int _ rfl (.tmp 92) (.tmp 93) 22 rfl wo.heap.size i0 Try.underlying22 HI0.out HZ0.out HZ1.out HZ2.out C q d2 _ rfl HN.out (some ⟨wr.heap.size, 0, none⟩) 1 1 _ rfl HS.out.il (by omega) HW.out.size ?_; intro A8 c8 w8 hap)
                have hN := hap.own
                rw [← HAL.out, ← HT.out] at hN
                have hb8 := HW.out.grown hap.grown HW.out.size (fun t ht => (HN.out.lt t (by rw [ownBlock_len C q (q + 1) d2 d2]; exact ht)).1)
                clear hap
                have HN8 := hide hN
                have HW8 := hide hb8
                clear hN hb8
                have hjm := HJM.out
                go_roundw
                case rel => exact ⟨j + 1, q + 1, c8, A8, by omega, by go_num, rfl, HN8, HW8⟩
                case measure => simp [intOf]; omega
            · by_cases hpi : p = i + 1
              · have HV : Hid (artV y z = [-(i : Int) - 1, (i : Int), (i : Int) + 1]) := hide (by unfold artV; rw [HP.out, HI.out, if_neg (by omega), if_neg (by omega), if_pos hpi])
                have hb : Below wr.heap.size wr (wr.alloc (.cells #[.int .i64 (-(i : Int) - 1), .int .i64 ((i : Int)), .int .i64 ((i : Int) + 1)] 3)) := (Below.refl _ _).alloc (Nat.le_refl _) _
                have HS := hide (SL.lit wr [-(i : Int) - 1, (i : Int), (i : Int) + 1] (by simp) (cs := #[.int .i64 (-(i : Int) - 1), .int .i64 ((i : Int)), .int .i64 ((i : Int) + 1)]) rfl (m := 3) rfl)
                have HBV : Hid (∀ x ∈ ([-(i : Int) - 1, (i : Int), (i : Int) + 1] : List Int), -1000 ≤ x ∧ x ≤ 1000) := hide (by intro x hx; simp at hx; omega)
                replace HN := hide (HN.out.below hb)
                replace HW := hide (HW.out.trans (hb.mono HW.out.size))
                clear hb
                have f1 : ((p : Int) == (i : Int)) = false := by simp; omega
                have f2 : ((p : Int) == (i : Int) + 1) = true := by simp; omega
                by_cases hzn : z < 0
                · go_wp2_with fail
                  refine (HIY.out _).mono ?_
                  rintro e w' ⟨rfl, hww⟩
                  subst hww
                  go_wp2_with fail
                  refine (HIY.out _).mono ?_
                  rintro e w' ⟨rfl, hww⟩
                  subst hww
                  go_wp2_with fail
                  refine (opposite_any _ 3 3 _ _ HS.out.il HBV.out).mono ?_
                  rintro e w3 ⟨V, vn, vc, rfl, ho, hb⟩
                  have HVL : Hid (vn ≤ 3) := hide (by rw [← ho.len, invw_length]; simp)
                  have hvl := HVL.out
                  replace HN := hide (HN.out.below hb)
                  replace HW := hide (HW.out.trans (hb.mono HW.out.size))
                  have HO3 := hide ho.sl.il
                  clear ho hb
                  have HAL : Hid (artL y z = invw [-(i : Int) - 1, (i : Int), (i : Int) + 1]) := hide (by unfold artL; rw [if_pos hzn, HV.out])
                  go_wp2_with (at_builtin; refine wpList_append_int _ rfl (.tmp 92) (.tmp 93) 22 rfl wo.heap.size i0 Try.underlying22 HI0.out HZ0.out HZ1.out HZ2.out C q d2 _ rfl HN.out V vn vc _ rfl HO3.out (by omega) HW.out.size ?_; intro A8 c8 w8 hap)
                  have hN := hap.own
                  rw [← HAL.out, ← HT.out] at hN
                  have hb8 := HW.out.grown hap.grown HW.out.size (fun t ht => (HN.out.lt t (by rw [ownBlock_len C q (q + vn) d2 d2]; exact ht)).1)
                  clear hap
                  have HN8 := hide hN
                  have HW8 := hide hb8
                  clear hN hb8
                  have hjm := HJM.out
                  go_roundw
                  case rel => exact ⟨j + 1, q + vn, c8, A8, by omega, by go_num, rfl, HN8, HW8⟩
                  case measure => simp [intOf]; omega
                · go_wp2_with fail
                  refine (HIY.out _).mono ?_
                  rintro e w' ⟨rfl, hww⟩
                  subst hww
                  go_wp2_with fail
                  refine (HIY.out _).mono ?_
                  rintro e w' ⟨rfl, hww⟩
                  subst hww
                  have HAL : Hid (artL y z = [-(i : Int) - 1, (i : Int), (i : Int) + 1]) := hide (by unfold artL; rw [if_neg (by omega), HV.out])
                  go_wp2_with (at_builtin; refine wpList_append_int _ rfl (.tmp 92) (.tmp 93) 22 rfl wo.heap.size i0 Try.underlying22 HI0.out HZ0.out HZ1.out HZ2.out C q d2 _ rfl HN.out (some ⟨wr.heap.size, 0, none⟩) 3 3 _ rfl HS.out.il (by omega) HW.out.size ?_; intro A8 c8 w8 hap)
                  have hN := hap.own
                  rw [← HAL.out, ← HT.out] at hN
                  have hb8 := HW.out.grown hap.grown HW.out.size (fun t ht => (HN.out.lt t (by rw [ownBlock_len C q (q + 3) d2 d2]; exact ht)).1)
                  clear hap
                  have HN8 := hide hN
                  have HW8 := hide hb8
                  clear hN hb8
                  have hjm := HJM.out
                  go_roundw
                  case rel => exact ⟨j + 1, q + 3, c8, A8, by omega, by go_num, rfl, HN8, HW8⟩
                  case measure => simp [intOf]; omega
              · have HV : Hid (artV y z = [(p : Int)]) := hide (by unfold artV; rw [HP.out, HI.out, if_neg (by omega), if_neg (by omega), if_neg (by omega)])
                have hb : Below wr.heap.size wr (wr.alloc (.cells #[.int .i64 ((p : Int))] 3)) := (Below.refl _ _).alloc (Nat.le_refl _) _
                have HS := hide (SL.lit wr [(p : Int)] (by simp) (cs := #[.int .i64 ((p : Int))]) rfl (m := 1) rfl)
                have HBV : Hid (∀ x ∈ ([(p : Int)] : List Int), -1000 ≤ x ∧ x ≤ 1000) := hide (by intro x hx; simp at hx; omega)
                replace HN := hide (HN.out.below hb)
                replace HW := hide (HW.out.trans (hb.mono HW.out.size))
                clear hb
                have f1 : ((p : Int) == (i : Int)) = false := by simp; omega
                have f2 : ((p : Int) == (i : Int) + 1) = false := by simp; omega
                by_cases hzn : z < 0
                · go_wp2_with fail
                  refine (HIY.out _).mono ?_
                  rintro e w' ⟨rfl, hww⟩
                  subst hww
                  go_wp2_with fail
                  refine (HIY.out _).mono ?_
                  rintro e w' ⟨rfl, hww⟩
                  subst hww
                  go_wp2_with fail
                  refine (HIY.out _).mono ?_
                  rintro e w' ⟨rfl, hww⟩
                  subst hww
                  go_wp2_with fail
                  refine (opposite_any _ 1 1 _ _ HS.out.il HBV.out).mono ?_
                  rintro e w3 ⟨V, vn, vc, rfl, ho, hb⟩
                  have HVL : Hid (vn ≤ 3) := hide (by rw [← ho.len, invw_length]; simp)
                  have hvl := HVL.out
                  replace HN := hide (HN.out.below hb)
                  replace HW := hide (HW.out.trans (hb.mono HW.out.size))
                  have HO3 := hide ho.sl.il
                  clear ho hb
                  have HAL : Hid (artL y z = invw [(p : Int)]) := hide (by unfold artL; rw [if_pos hzn, HV.out])
                  go_wp2_with (at_builtin; refine wpList_append_int _ rfl (.tmp 92) (.tmp 93) 22 rfl wo.heap.size i0 Try.underlying22 HI0.out HZ0.out HZ1.out HZ2.out C q d2 _ rfl HN.out V vn vc _ rfl HO3.out (by omega) HW.out.size ?_; intro A8 c8 w8 hap)
                  have hN := hap.own
                  rw [← HAL.out, ← HT.out] at hN
                  have hb8 := HW.out.grown hap.grown HW.out.size (fun t ht => (HN.out.lt t (by rw [ownBlock_len C q (q + vn) d2 d2]; exact ht)).1)
                  clear hap
                  have HN8 := hide hN
                  have HW8 := hide hb8
                  clear hN hb8
                  have hjm := HJM.out
                  go_roundw
                  case rel => exact ⟨j + 1, q + vn, c8, A8, by omega, by go_num, rfl, HN8, HW8⟩
                  case measure => simp [intOf]; omega
                · go_wp2_with fail
                  refine (HIY.out _).mono ?_
                  rintro e w' ⟨rfl, hww⟩
                  subst hww
                  go_wp2_with fail
                  refine (HIY.out _).mono ?_
                  rintro e w' ⟨rfl, hww⟩
                  subst hww
                  go_wp2_with fail
                  refine (HIY.out _).mono ?_
                  rintro e w' ⟨rfl, hww⟩
                  subst hww
                  have HAL : Hid (artL y z = [(p : Int)]) := hide (by unfold artL; rw [if_neg (by omega), HV.out])
                  go_wp2_with (at_builtin; refine wpList_append_int _ rfl (.tmp 92) (.tmp 93) 22 rfl wo.heap.size i0 Try.underlying22 HI0.out HZ0.out HZ1.out HZ2.out C q d2 _ rfl HN.out (some ⟨wr.heap.size, 0, none⟩) 1 1 _ rfl HS.out.il (by omega) HW.out.size ?_; intro A8 c8 w8 hap)
                  have hN := hap.own
                  rw [← HAL.out, ← HT.out] at hN
                  have hb8 := HW.out.grown hap.grown HW.out.size (fun t ht => (HN.out.lt t (by rw [ownBlock_len C q (q + 1) d2 d2]; exact ht)).1)
                  clear hap
                  have HN8 := hide hN
                  have HW8 := hide hb8
                  clear hN hb8
                  have hjm := HJM.out
                  go_roundw
                  case rel => exact ⟨j + 1, q + 1, c8, A8, by omega, by go_num, rfl, HN8, HW8⟩
                  case measure => simp [intOf]; omega
        · obtain rfl : j = m := by omega
          have hN := HN.out
          rw [List.take_of_length_le (by rw [HUL.out]; exact Nat.le_refl _)] at hN
          have HNN := hide hN
          have HQL := hide hN.len
          have HBZ := hide (artW_bz HYB.out HU.out)
          have HQ3 : Hid (q ≤ 3 * j) := hide (by
            have h2 := artW_len y u
            rw [HUL.out, HQL.out] at h2
            exact h2)
          clear hN
          go_wp2_with fail
          refine (short_any C q d2 _ _ HNN.out.il HNN.out.nil (fun z hz => by have := HBZ.out z hz; omega)).mono ?_
          rintro e w5 ⟨D, dn, dc, rfl, ho, hb⟩
          have HO5 := hide (ho.mono (HB.out.trans (HW.out.mono HB.out.size)).size)
          have HB5 := hide ((HB.out.trans (HW.out.mono HB.out.size)).trans (hb.mono (HB.out.trans (HW.out.mono HB.out.size)).size))
          have HZ5 := hide (fun z hz => HBZ.out z (nf_mem hz) : bz 900 (nf (artW y u)))
          have HL5 : Hid (dn ≤ 30000000000) := hide (by
            rw [← ho.len, HE2.out]
            exact HBD.out (k + 1) HLT.out)
          have hlt := HLT.out
          clear ho hb
          go_wp2_with fail
          go_roundw
          case rel => exact ⟨k + 1, dn, dc, D, nf (artW y u), by omega, by go_num, rfl, HO5, HE2, HZ5, HL5.out, HB5⟩
          case measure => simp [intOf]; omega
    · obtain rfl : k = n := by omega
      have HE3 : Hid (artF ys [x] = u) := hide (by rw [HE.out, List.take_of_length_le (by rw [HL.out]; exact Nat.le_refl _)])
      go_wp2_with fail
      go_ret
      exact ⟨B, m, d, rfl, by rw [HE3.out]; exact HO.out, HB.out⟩
end Go.Proofs.Ytoaiblhlpdaeoaa
/- timbref1.Equals. (Written by tools/gen_equals.py.) -/
namespace Go.Proofs.Ytoaiblhlpdaeoaa
set_option linter.unusedVariables false
set_option linter.unusedSimpArgs false
open Go.RowKit

/-- Does each generator below k have itself as its image? -/
def fixA (w : List Int) (k : Nat) : Bool := (List.range k).all fun (s : Nat) => eqB (artF w [((s : Nat) : Int) + 1]) [((s : Nat) : Int) + 1]
theorem fixA_zero (w : List Int) : fixA w 0 = true := rfl
theorem fixA_succ (w : List Int) (k : Nat) : fixA w (k + 1) = (fixA w k && eqB (artF w [(k : Int) + 1]) [(k : Int) + 1]) := by unfold fixA; rw [List.range_succ, List.all_append]; simp
theorem fixA_no {w : List Int} {k : Nat} (h : eqB (artF w [(k : Int) + 1]) [(k : Int) + 1] = false) {N : Nat} (hk : k < N) : fixA w N = false := by
  unfold fixA
  rw [List.all_eq_false]
  exact ⟨k, List.mem_range.2 hk, by simp [h]⟩

set_option maxRecDepth 100000 in
set_option maxHeartbeats 4000000 in
theorem equals_big (N : Nat) (hN : N ≤ 6) (A : Option Addr) (n c : Nat) (xs : List Int) (B : Option Addr) (m d : Nat) (ys : List Int) (w : World) (ha : SL w A n c xs) (hb : SL w B m d ys) (hx : okB N xs) (hy : okB N ys) (hn : n ≤ 1000) (hm : m ≤ 1000) (hbd : ∀ z : Int, z ≠ 0 → ∀ k, (artF ((invw xs ++ ys).take k) [z]).length ≤ 30000000000) :
    Calls Try.prog 17 #[.int .i64 N, .slice A n c, .slice B m d] w fun e w' => e = .returned (.bool (fixA (invw xs ++ ys) N)) ∧ Below w.heap.size w w' := by
  have HA := hide ha
  have HB := hide hb
  have HW := hide (Below.refl w.heap.size w)
  have HXB : Hid (∀ x ∈ xs, -1000 ≤ x ∧ x ≤ 1000) := hide (fun x h => by have := hx x h; omega)
  have HY : Hid (∀ y ∈ invw xs ++ ys, y ≠ 0 ∧ y.natAbs ≤ 800) := hide (fun y h => by
    rcases List.mem_append.1 h with h | h
    · unfold invw at h
      obtain ⟨z, hz, rfl⟩ := List.mem_map.1 (List.mem_reverse.1 h)
      have := hx z hz
      omega
    · have := hy y h
      omega)
  have NA := hide ha.il.len
  have NB := hide hb.il.len
  have HBD := hide hbd
  clear ha hb hx hy hbd
  go_enter Try.func17, Try.ntmps17
  go_wp2_with fail
  refine (opposite_any A n c xs _ HA.out.il HXB.out).mono ?_
  rintro e w1 ⟨O, on, oc, rfl, ho, hb⟩
  replace HA := hide (HA.out.below hb)
  replace HB := hide (HB.out.below hb)
  replace HW := hide (HW.out.trans (hb.mono HW.out.size))
  have SO := hide ho.sl
  clear hb ho
  go_wp2_with fail
  have HLIT := hide (show ILL (w1.alloc (.cells #[.slice O on oc, .slice B m d] 22)) (some ⟨w1.heap.size, 0, none⟩) 2 [invw xs, ys] from
    ILL.lit (vs := [.slice O on oc, .slice B m d]) rfl (by simp) (fun j hj => by
      match j, hj with
      | 0, _ => exact ⟨_, _, _, rfl, SO.out.il⟩
      | 1, _ => exact ⟨_, _, _, rfl, HB.out.il⟩
      | j + 2, h => exact absurd h (by simp)) rfl rfl)
  have hal : Below w1.heap.size w1 (w1.alloc (.cells #[.slice O on oc, .slice B m d] 22)) := (Below.refl _ _).alloc (Nat.le_refl _) _
  have hfl : [invw xs, ys].flatten = invw xs ++ ys := by simp
  refine (concat_any (some ⟨w1.heap.size, 0, none⟩) 2 2 _ _ HLIT.out (by rw [hfl]; simp only [List.length_append, invw_length]; have := NA.out; have := NB.out; omega)).mono ?_
  rintro e w2 ⟨D, dn, dc, rfl, ho, hb0⟩
  have hb := hal.trans (hb0.mono hal.size)
  rw [hfl] at ho
  replace HA := hide (HA.out.below hb)
  replace HB := hide (HB.out.below hb)
  replace HW := hide (HW.out.trans (hb.mono HW.out.size))
  replace SO := hide (SO.out.below hb)
  have S1 := hide ho.sl
  clear ho hb0 hal hfl HLIT hb
  obtain ⟨W, hWe⟩ : ∃ W, invw xs ++ ys = W := ⟨_, rfl⟩
  rw [hWe] at S1 HY HBD
  have HWE := hide hWe
  clear hWe
  have H1 := HW
  clear HA HB SO HXB NA NB
  skip
  go_wp2_with fail
  go_loopw [8] (fun xv wr => ∃ k : Nat, k ≤ N ∧ xv = .int .i64 ((k : Int) + 1) ∧ Hid (fixA W k = true) ∧ Hid (SL wr D dn dc W) ∧ Hid (Below w.heap.size w wr)) (fun xv _ => N + 1 - (intOf xv).toNat)
  case atStart => exact ⟨0, Nat.zero_le _, rfl, hide (fixA_zero W), S1, HW⟩
  case round =>
    clear S1 HW H1
    obtain ⟨k, hk, rfl, HF, S1, HW⟩ := hrel
    by_cases hlt : k < N
    · have HI := hide (image_big ((k : Int) + 1) D dn dc W _ S1.out (by omega) HY.out (fun j _ => HBD.out _ (by omega) j))
      have HLT := hide hlt
      have HNO : Hid (eqB (artF W [(k : Int) + 1]) [(k : Int) + 1] = false → fixA W N = false) := hide (fun h => fixA_no h HLT.out)
      have HYES : Hid (eqB (artF W [(k : Int) + 1]) [(k : Int) + 1] = true → fixA W (k + 1) = true) := hide (fun h => by rw [fixA_succ, HF.out, h]; rfl)
      have hk6 : k ≤ 6 := by omega
      clear hk
      go_wp2_with fail
      refine (HI.out).mono ?_
      rintro e w3 ⟨I, ic, id, rfl, ho, hb⟩
      replace S1 := hide (S1.out.below hb)
      replace HW := hide (HW.out.trans (hb.mono HW.out.size))
      have SI := hide ho.sl
      clear HI
      clear hb ho
      go_wp2_with fail
      have hlit : SL (w3.alloc (.cells #[.int .i64 ((k : Int) + 1)] 3)) (some ⟨w3.heap.size, 0, none⟩) 1 1 [(k : Int) + 1] := SL.lit w3 [(k : Int) + 1] (by simp) rfl rfl
      have hal : Below w3.heap.size w3 (w3.alloc (.cells #[.int .i64 ((k : Int) + 1)] 3)) := (Below.refl _ _).alloc (Nat.le_refl _) _
      refine (equal_any I (some ⟨w3.heap.size, 0, none⟩) ic 1 id 1 _ _ _ (SI.out.il.below hal) hlit.il).mono ?_
      rintro e w4 ⟨rfl, hb0⟩
      have hb := hal.trans (hb0.mono hal.size)
      replace S1 := hide (S1.out.below hb)
      replace HW := hide (HW.out.trans (hb.mono HW.out.size))
      replace SI := hide (SI.out.below hb)
      clear hb hb0 hal hlit
      obtain ⟨q, hq⟩ : ∃ q, eqB (artF W [(k : Int) + 1]) [(k : Int) + 1] = q := ⟨_, rfl⟩
      rw [hq] at HNO HYES ⊢
      clear hq
      cases q with
      | true =>
        have HY2 := hide (HYES.out rfl)
        have hlt := HLT.out
        clear HNO HYES HF
        go_wp2_with fail
        go_roundw
        case rel => exact ⟨k + 1, by omega, by go_num, HY2, S1, HW⟩
        case measure => simp [intOf]; omega
      | false =>
        have HN2 := hide (HNO.out rfl)
        clear HNO HYES HF
        go_wp2_with fail
        go_ret
        exact ⟨by rw [HWE.out, HN2.out]; rfl, HW.out⟩
    · have hkN : k = N := by omega
      have HE : Hid (fixA W N = true) := hide (by rw [← hkN]; exact HF.out)
      clear HF hkN
      go_wp2_with fail
      go_ret
      exact ⟨by rw [HWE.out, HE.out]; rfl, HW.out⟩
theorem equals_any (N : Nat) (hN : N ≤ 6) (A : Option Addr) (n c : Nat) (xs : List Int) (B : Option Addr) (m d : Nat) (ys : List Int) (w : World) (ha : SL w A n c xs) (hb : SL w B m d ys) (hx : okB N xs) (hy : okB N ys) (hn : n ≤ 6) (hm : m ≤ 6) :
    Calls Try.prog 17 #[.int .i64 N, .slice A n c, .slice B m d] w fun e w' => e = .returned (.bool (fixA (invw xs ++ ys) N)) ∧ Below w.heap.size w w' :=
  equals_big N hN A n c xs B m d ys w ha hb hx hy (by omega) (by omega) fun z hz k => by
    have h1 := artF_len' ((invw xs ++ ys).take k) [z]
    have l1 := ha.il.len
    have l2 := hb.il.len
    have h2 : 3 ^ ((invw xs ++ ys).take k).length ≤ 3 ^ 12 := Nat.pow_le_pow_right (by omega) (by rw [List.length_take, List.length_append, invw_length]; omega)
    have h3 : (3 : Nat) ^ 12 = 531441 := by decide
    rw [h3] at h2
    generalize 3 ^ ((invw xs ++ ys).take k).length = Q at h1 h2
    simp at h1
    omega
end Go.Proofs.Ytoaiblhlpdaeoaa
