/- timbkeep1.MatrixCounts, for a package intmatrix that answers as it should. -/
import Derived.Test.YtgjblcfcbohjdaaDoorLawMTimes
import Derived.Test.YtgjblcfcbohjdaaDoorCount
namespace Go.Proofs.YtgjblcfcbohjdaaDoor
set_option linter.unusedVariables false
set_option linter.unusedSimpArgs false
open Go.RowKit

theorem sol_right {xss : List (List Int)} (h : mfault xss = 0) {q : Nat} (h1 : 0 < q) (h2 : q ≤ 13) : solE xss q = 0 ∧ solV xss q = (solN xss (colsM xss) q : Nat) := by
  have e : solE xss q = 0 := by unfold solE; rw [if_pos h, if_neg (by omega)]
  refine ⟨e, ?_⟩
  unfold solV
  rw [if_pos e]
  rfl

set_option maxRecDepth 100000 in
set_option maxHeartbeats 4000000 in
theorem matrixCounts_any (F : MatC) (A : Option Addr) (n c : Nat) (n0 m0 q0 : Int) (xs : List Int) (w : World) (ha : SL w A n c xs) (hT : TabW w) :
    Calls Tryd.prog 9 #[.int .i64 n0, .int .i64 m0, .slice A n c, .int .i64 q0] w fun e w' => e = .returned (.bool true) ∧ Below w.heap.size w w' := by
  have HF := hide F
  have HTW := hide hT
  clear hT
  have HA := hide ha
  obtain ⟨j1, hj1, hj12⟩ : ∃ j : Nat, j < 4 ∧ n0 % ((4 : Nat) : Int) = (j : Int) := ⟨(n0 % 4).toNat, by omega, by omega⟩
  obtain ⟨j2, hj2, hj22⟩ : ∃ j : Nat, j < 4 ∧ m0 % ((4 : Nat) : Int) = (j : Int) := ⟨(m0 % 4).toNat, by omega, by omega⟩
  obtain ⟨j3, hj3, hj32⟩ : ∃ j : Nat, j < 4 ∧ q0 % ((4 : Nat) : Int) = (j : Int) := ⟨(q0 % 4).toNat, by omega, by omega⟩
  have HM1 : Hid (∀ w, Calls Tryd.prog 21 #[.int .i64 n0, .int .i64 4] w fun e w' => e = .returned (.int .i64 j1) ∧ w = w') := hide (fun w => by
    have h := mbelow_any n0 4 w (by omega) (by omega)
    rw [hj12] at h
    exact h)
  have HM2 : Hid (∀ w, Calls Tryd.prog 21 #[.int .i64 m0, .int .i64 4] w fun e w' => e = .returned (.int .i64 j2) ∧ w = w') := hide (fun w => by
    have h := mbelow_any m0 4 w (by omega) (by omega)
    rw [hj22] at h
    exact h)
  have HM3 : Hid (∀ w, Calls Tryd.prog 21 #[.int .i64 q0, .int .i64 4] w fun e w' => e = .returned (.int .i64 j3) ∧ w = w') := hide (fun w => by
    have h := mbelow_any q0 4 w (by omega) (by omega)
    rw [hj32] at h
    exact h)
  obtain ⟨k, hk⟩ : ∃ k, 1 + j1 = k := ⟨_, rfl⟩
  obtain ⟨m, hm⟩ : ∃ m, 1 + j2 = m := ⟨_, rfl⟩
  have hk1 : 0 < k := by omega
  have hk4 : k ≤ 4 := by omega
  have hm1 : 0 < m := by omega
  have hm4 : m ≤ 4 := by omega
  have hjk : (1 : Int) + (j1 : Int) = (k : Int) := by omega
  have hjm : (1 : Int) + (j2 : Int) = (m : Int) := by omega
  have HBX := hide (rawM_box k m xs 50)
  have HMX : Hid (∀ (w : World) (A : Option Addr) (n c : Nat), SL w A n c xs → Calls Tryd.prog 22 #[.int .i64 k, .int .i64 m, .slice A n c, .int .i64 50] w fun e w' => ∃ A m' d, e = .returned (.slice A m' d) ∧ SLL w' A m' d (rawM k m xs 50) ∧ Below w.heap.size w w') := hide (fun w A n c h => mmatrix_any A n c xs k m 50 w h.il (by omega) (by omega) (by omega))
  obtain ⟨X, hX⟩ : ∃ X, rawM k m xs 50 = X := ⟨_, rfl⟩
  rw [hX] at HBX HMX
  have HFA := hide (HBX.out.fault (by omega) (by omega) (by omega))
  have HCO := hide (HBX.out.cols hk1)
  have HPR : Hid (∀ p q, GoodPair p q → 0 < p → 0 < q → p * q ≤ 13 → solV X ((p * q : Nat) : Int) = solV X p * solV X q ∧ 0 < solV X p ∧ (solV X p).natAbs ≤ 28561 ∧ (solV X q).natAbs ≤ 28561 ∧ solE X p = 0 ∧ solE X q = 0 ∧ solE X ((p * q : Nat) : Int) = 0) := hide (fun p q h hp hq hpq => by
    have hp13 : p ≤ 13 := Nat.le_trans (Nat.le_mul_of_pos_right _ hq) hpq
    have hq13 : q ≤ 13 := Nat.le_trans (Nat.le_mul_of_pos_left _ hp) hpq
    obtain ⟨a1, a2⟩ := sol_right HFA.out hp hp13
    obtain ⟨b1, b2⟩ := sol_right HFA.out hq hq13
    obtain ⟨c1, c2⟩ := sol_right HFA.out (Nat.mul_pos hp hq) hpq
    have hr : ∀ i, i < X.length → (X.getD i []).length = m := fun i hi => HBX.out.row i (by rw [← HBX.out.len]; exact hi)
    have hle : ∀ r, r ≤ 13 → solN X m r ≤ 28561 := fun r hr => Nat.le_trans (solN_le X m r) (Nat.le_trans (Nat.pow_le_pow_left hr m) (Nat.le_trans (Nat.pow_le_pow_right (by omega) hm4) (by decide)))
    have h1 := hle p hp13
    have h2 := hle q hq13
    have h3 := solN_mul h hp hq hr
    have h4 := solN_pos (xss := X) (m := m) hp
    rw [HCO.out] at a2 b2 c2
    refine ⟨by rw [a2, b2, c2, h3]; push_cast; rfl, by rw [a2]; omega, by rw [a2]; omega, by rw [b2]; omega, a1, b1, c1⟩)
  clear F ha hj12 hj22 hj32 hX
  go_enter Tryd.func9, Tryd.ntmps9
  go_wp2_with fail
  refine (HM1.out _).mono ?_
  rintro e w' ⟨rfl, rfl⟩
  clear hk
  go_wp2_with fail
  refine (HM2.out _).mono ?_
  rintro e w' ⟨rfl, rfl⟩
  clear hm
  go_wp2_with fail
  refine (HMX.out _ _ _ _ HA.out).mono ?_
  rintro e w1 ⟨Xp, xn, xc, rfl, hs, hb⟩
  have HX := hide hs
  have HW := hide hb
  clear hs hb HMX HA HM1 HM2 hjk hjm
  go_wp2_with fail
  refine (HM3.out _).mono ?_
  rintro e w' ⟨rfl, rfl⟩
  have hc : j3 = 0 ∨ j3 = 1 ∨ j3 = 2 ∨ j3 = 3 := by omega
  clear HM3
  rcases hc with rfl | rfl | rfl | rfl
  · have HP := HPR.out 2 3 good23 (by omega) (by omega) (by omega)
    have p1 : solV X 6 = solV X 2 * solV X 3 := by exact_mod_cast HP.1
    have p2 : 0 < solV X 2 := by exact_mod_cast HP.2.1
    have p3 : (solV X 2).natAbs ≤ 28561 := by exact_mod_cast HP.2.2.1
    have p4 : (solV X 3).natAbs ≤ 28561 := by exact_mod_cast HP.2.2.2.1
    have p5 : solE X 2 = 0 := by exact_mod_cast HP.2.2.2.2.1
    have p6 : solE X 3 = 0 := by exact_mod_cast HP.2.2.2.2.2.1
    have p7 : solE X 6 = 0 := by exact_mod_cast HP.2.2.2.2.2.2
    clear HP HPR
    obtain ⟨x, hx⟩ : ∃ x, solV X 2 = x := ⟨_, rfl⟩
    obtain ⟨y, hy⟩ : ∃ y, solV X 3 = y := ⟨_, rfl⟩
    have hz : solV X 6 = x * y := by rw [p1, hx, hy]
    rw [hx] at p2 p3
    rw [hy] at p4
    have HSX : Hid (∀ (w : World) (A : Option Addr) (n c : Nat), SLL w A n c X → TabW w → Calls Tryd.prog 19 #[.slice A n c, .int .i64 2] w fun e w' => e = .returned (.tuple #[.int .i64 x, .int .i64 0]) ∧ Below w.heap.size w w') := hide (fun w A n c h hT => by
      have h2 := HF.out.solutions A n c X 2 w h hT (by decide)
      rw [hx, p5] at h2
      exact h2)
    have HSY : Hid (∀ (w : World) (A : Option Addr) (n c : Nat), SLL w A n c X → TabW w → Calls Tryd.prog 19 #[.slice A n c, .int .i64 3] w fun e w' => e = .returned (.tuple #[.int .i64 y, .int .i64 0]) ∧ Below w.heap.size w w') := hide (fun w A n c h hT => by
      have h2 := HF.out.solutions A n c X 3 w h hT (by decide)
      rw [hy, p6] at h2
      exact h2)
    have HSZ : Hid (∀ (w : World) (A : Option Addr) (n c : Nat), SLL w A n c X → TabW w → Calls Tryd.prog 19 #[.slice A n c, .int .i64 6] w fun e w' => e = .returned (.tuple #[.int .i64 (x * y), .int .i64 0]) ∧ Below w.heap.size w w') := hide (fun w A n c h hT => by
      have h2 := HF.out.solutions A n c X 6 w h hT (by decide)
      rw [hz, p7] at h2
      exact h2)
    have hwp : IntKind.i64.wrap (x * y) = x * y := by
      have h := abs_mul_le p3 p4
      rw [IntKind.wrap_i64]; omega
    have hxpos : decide ((0 : Int) < x) = true := decide_eq_true p2
    have hxy : (x * y == x * y) = true := by simp
    clear p1 p2 p3 p4 p5 p6 p7 hx hy hz
    go_wp2_with fail
    have HBK : Hid (Blk ((w1.alloc (.cells #[.int .i64 2, .int .i64 3, .int .i64 2, .int .i64 5, .int .i64 3, .int .i64 4, .int .i64 1, .int .i64 7] 48)).alloc (.cells #[.int .i64 2, .int .i64 3] 48)) (w1.heap.size + 1) 48 #[.int .i64 2, .int .i64 3]) := hide (by
      have h := Blk.new (w1.alloc (.cells #[.int .i64 2, .int .i64 3, .int .i64 2, .int .i64 5, .int .i64 3, .int .i64 4, .int .i64 1, .int .i64 7] 48)) 48 #[.int .i64 2, .int .i64 3]
      rw [World.size_alloc] at h
      exact h)
    have HB2 : Hid (Below w1.heap.size w1 ((w1.alloc (.cells #[.int .i64 2, .int .i64 3, .int .i64 2, .int .i64 5, .int .i64 3, .int .i64 4, .int .i64 1, .int .i64 7] 48)).alloc (.cells #[.int .i64 2, .int .i64 3] 48))) := hide (((Below.refl _ _).alloc (Nat.le_refl _) _).alloc (by simp) _)
    replace HX := hide (HX.out.below HB2.out)
    replace HW := hide (HW.out.trans (HB2.out.mono HW.out.size))
    clear HB2
    obtain ⟨w2, hw2⟩ : ∃ w2, (w1.alloc (.cells #[.int .i64 2, .int .i64 3, .int .i64 2, .int .i64 5, .int .i64 3, .int .i64 4, .int .i64 1, .int .i64 7] 48)).alloc (.cells #[.int .i64 2, .int .i64 3] 48) = w2 := ⟨_, rfl⟩
    rw [hw2] at HBK HX HW ⊢
    clear hw2
    refine (HSX.out _ _ _ _ HX.out (HTW.out.below HW.out)).mono ?_
    rintro e w3 ⟨rfl, hb⟩
    replace HX := hide (HX.out.below hb)
    replace HBK := hide (HBK.out.below hb HBK.out.lt)
    replace HW := hide (HW.out.trans (hb.mono HW.out.size))
    have hc0 := HBK.out.cell 0
    have hc1 := HBK.out.cell 1
    simp at hc0 hc1
    clear hb
    go_wp2_with fail
    refine (HSY.out _ _ _ _ HX.out (HTW.out.below HW.out)).mono ?_
    rintro e w3 ⟨rfl, hb⟩
    replace HX := hide (HX.out.below hb)
    replace HBK := hide (HBK.out.below hb HBK.out.lt)
    replace HW := hide (HW.out.trans (hb.mono HW.out.size))
    have hc0 := HBK.out.cell 0
    have hc1 := HBK.out.cell 1
    simp at hc0 hc1
    clear hb
    go_wp2_with fail
    refine (HSZ.out _ _ _ _ HX.out (HTW.out.below HW.out)).mono ?_
    rintro e w3 ⟨rfl, hb⟩
    replace HX := hide (HX.out.below hb)
    replace HBK := hide (HBK.out.below hb HBK.out.lt)
    replace HW := hide (HW.out.trans (hb.mono HW.out.size))
    have hc0 := HBK.out.cell 0
    have hc1 := HBK.out.cell 1
    simp at hc0 hc1
    clear hb
    go_wp2_with fail
    refine (reckoned2_any HF.out _ (HTW.out.below HW.out)).mono ?_
    rintro e w7 ⟨rfl, hb⟩
    replace HW := hide (HW.out.trans (hb.mono HW.out.size))
    clear hb HX HBK hc0 hc1
    go_wp2_with fail
    go_ret
    exact ⟨by simp, HW.out⟩
  · have HP := HPR.out 2 5 good25 (by omega) (by omega) (by omega)
    have p1 : solV X 10 = solV X 2 * solV X 5 := by exact_mod_cast HP.1
    have p2 : 0 < solV X 2 := by exact_mod_cast HP.2.1
    have p3 : (solV X 2).natAbs ≤ 28561 := by exact_mod_cast HP.2.2.1
    have p4 : (solV X 5).natAbs ≤ 28561 := by exact_mod_cast HP.2.2.2.1
    have p5 : solE X 2 = 0 := by exact_mod_cast HP.2.2.2.2.1
    have p6 : solE X 5 = 0 := by exact_mod_cast HP.2.2.2.2.2.1
    have p7 : solE X 10 = 0 := by exact_mod_cast HP.2.2.2.2.2.2
    clear HP HPR
    obtain ⟨x, hx⟩ : ∃ x, solV X 2 = x := ⟨_, rfl⟩
    obtain ⟨y, hy⟩ : ∃ y, solV X 5 = y := ⟨_, rfl⟩
    have hz : solV X 10 = x * y := by rw [p1, hx, hy]
    rw [hx] at p2 p3
    rw [hy] at p4
    have HSX : Hid (∀ (w : World) (A : Option Addr) (n c : Nat), SLL w A n c X → TabW w → Calls Tryd.prog 19 #[.slice A n c, .int .i64 2] w fun e w' => e = .returned (.tuple #[.int .i64 x, .int .i64 0]) ∧ Below w.heap.size w w') := hide (fun w A n c h hT => by
      have h2 := HF.out.solutions A n c X 2 w h hT (by decide)
      rw [hx, p5] at h2
      exact h2)
    have HSY : Hid (∀ (w : World) (A : Option Addr) (n c : Nat), SLL w A n c X → TabW w → Calls Tryd.prog 19 #[.slice A n c, .int .i64 5] w fun e w' => e = .returned (.tuple #[.int .i64 y, .int .i64 0]) ∧ Below w.heap.size w w') := hide (fun w A n c h hT => by
      have h2 := HF.out.solutions A n c X 5 w h hT (by decide)
      rw [hy, p6] at h2
      exact h2)
    have HSZ : Hid (∀ (w : World) (A : Option Addr) (n c : Nat), SLL w A n c X → TabW w → Calls Tryd.prog 19 #[.slice A n c, .int .i64 10] w fun e w' => e = .returned (.tuple #[.int .i64 (x * y), .int .i64 0]) ∧ Below w.heap.size w w') := hide (fun w A n c h hT => by
      have h2 := HF.out.solutions A n c X 10 w h hT (by decide)
      rw [hz, p7] at h2
      exact h2)
    have hwp : IntKind.i64.wrap (x * y) = x * y := by
      have h := abs_mul_le p3 p4
      rw [IntKind.wrap_i64]; omega
    have hxpos : decide ((0 : Int) < x) = true := decide_eq_true p2
    have hxy : (x * y == x * y) = true := by simp
    clear p1 p2 p3 p4 p5 p6 p7 hx hy hz
    go_wp2_with fail
    have HBK : Hid (Blk ((w1.alloc (.cells #[.int .i64 2, .int .i64 3, .int .i64 2, .int .i64 5, .int .i64 3, .int .i64 4, .int .i64 1, .int .i64 7] 48)).alloc (.cells #[.int .i64 2, .int .i64 5] 48)) (w1.heap.size + 1) 48 #[.int .i64 2, .int .i64 5]) := hide (by
      have h := Blk.new (w1.alloc (.cells #[.int .i64 2, .int .i64 3, .int .i64 2, .int .i64 5, .int .i64 3, .int .i64 4, .int .i64 1, .int .i64 7] 48)) 48 #[.int .i64 2, .int .i64 5]
      rw [World.size_alloc] at h
      exact h)
    have HB2 : Hid (Below w1.heap.size w1 ((w1.alloc (.cells #[.int .i64 2, .int .i64 3, .int .i64 2, .int .i64 5, .int .i64 3, .int .i64 4, .int .i64 1, .int .i64 7] 48)).alloc (.cells #[.int .i64 2, .int .i64 5] 48))) := hide (((Below.refl _ _).alloc (Nat.le_refl _) _).alloc (by simp) _)
    replace HX := hide (HX.out.below HB2.out)
    replace HW := hide (HW.out.trans (HB2.out.mono HW.out.size))
    clear HB2
    obtain ⟨w2, hw2⟩ : ∃ w2, (w1.alloc (.cells #[.int .i64 2, .int .i64 3, .int .i64 2, .int .i64 5, .int .i64 3, .int .i64 4, .int .i64 1, .int .i64 7] 48)).alloc (.cells #[.int .i64 2, .int .i64 5] 48) = w2 := ⟨_, rfl⟩
    rw [hw2] at HBK HX HW ⊢
    clear hw2
    refine (HSX.out _ _ _ _ HX.out (HTW.out.below HW.out)).mono ?_
    rintro e w3 ⟨rfl, hb⟩
    replace HX := hide (HX.out.below hb)
    replace HBK := hide (HBK.out.below hb HBK.out.lt)
    replace HW := hide (HW.out.trans (hb.mono HW.out.size))
    have hc0 := HBK.out.cell 0
    have hc1 := HBK.out.cell 1
    simp at hc0 hc1
    clear hb
    go_wp2_with fail
    refine (HSY.out _ _ _ _ HX.out (HTW.out.below HW.out)).mono ?_
    rintro e w3 ⟨rfl, hb⟩
    replace HX := hide (HX.out.below hb)
    replace HBK := hide (HBK.out.below hb HBK.out.lt)
    replace HW := hide (HW.out.trans (hb.mono HW.out.size))
    have hc0 := HBK.out.cell 0
    have hc1 := HBK.out.cell 1
    simp at hc0 hc1
    clear hb
    go_wp2_with fail
    refine (HSZ.out _ _ _ _ HX.out (HTW.out.below HW.out)).mono ?_
    rintro e w3 ⟨rfl, hb⟩
    replace HX := hide (HX.out.below hb)
    replace HBK := hide (HBK.out.below hb HBK.out.lt)
    replace HW := hide (HW.out.trans (hb.mono HW.out.size))
    have hc0 := HBK.out.cell 0
    have hc1 := HBK.out.cell 1
    simp at hc0 hc1
    clear hb
    go_wp2_with fail
    refine (reckoned2_any HF.out _ (HTW.out.below HW.out)).mono ?_
    rintro e w7 ⟨rfl, hb⟩
    replace HW := hide (HW.out.trans (hb.mono HW.out.size))
    clear hb HX HBK hc0 hc1
    go_wp2_with fail
    go_ret
    exact ⟨by simp, HW.out⟩
  · have HP := HPR.out 3 4 good34 (by omega) (by omega) (by omega)
    have p1 : solV X 12 = solV X 3 * solV X 4 := by exact_mod_cast HP.1
    have p2 : 0 < solV X 3 := by exact_mod_cast HP.2.1
    have p3 : (solV X 3).natAbs ≤ 28561 := by exact_mod_cast HP.2.2.1
    have p4 : (solV X 4).natAbs ≤ 28561 := by exact_mod_cast HP.2.2.2.1
    have p5 : solE X 3 = 0 := by exact_mod_cast HP.2.2.2.2.1
    have p6 : solE X 4 = 0 := by exact_mod_cast HP.2.2.2.2.2.1
    have p7 : solE X 12 = 0 := by exact_mod_cast HP.2.2.2.2.2.2
    clear HP HPR
    obtain ⟨x, hx⟩ : ∃ x, solV X 3 = x := ⟨_, rfl⟩
    obtain ⟨y, hy⟩ : ∃ y, solV X 4 = y := ⟨_, rfl⟩
    have hz : solV X 12 = x * y := by rw [p1, hx, hy]
    rw [hx] at p2 p3
    rw [hy] at p4
    have HSX : Hid (∀ (w : World) (A : Option Addr) (n c : Nat), SLL w A n c X → TabW w → Calls Tryd.prog 19 #[.slice A n c, .int .i64 3] w fun e w' => e = .returned (.tuple #[.int .i64 x, .int .i64 0]) ∧ Below w.heap.size w w') := hide (fun w A n c h hT => by
      have h2 := HF.out.solutions A n c X 3 w h hT (by decide)
      rw [hx, p5] at h2
      exact h2)
    have HSY : Hid (∀ (w : World) (A : Option Addr) (n c : Nat), SLL w A n c X → TabW w → Calls Tryd.prog 19 #[.slice A n c, .int .i64 4] w fun e w' => e = .returned (.tuple #[.int .i64 y, .int .i64 0]) ∧ Below w.heap.size w w') := hide (fun w A n c h hT => by
      have h2 := HF.out.solutions A n c X 4 w h hT (by decide)
      rw [hy, p6] at h2
      exact h2)
    have HSZ : Hid (∀ (w : World) (A : Option Addr) (n c : Nat), SLL w A n c X → TabW w → Calls Tryd.prog 19 #[.slice A n c, .int .i64 12] w fun e w' => e = .returned (.tuple #[.int .i64 (x * y), .int .i64 0]) ∧ Below w.heap.size w w') := hide (fun w A n c h hT => by
      have h2 := HF.out.solutions A n c X 12 w h hT (by decide)
      rw [hz, p7] at h2
      exact h2)
    have hwp : IntKind.i64.wrap (x * y) = x * y := by
      have h := abs_mul_le p3 p4
      rw [IntKind.wrap_i64]; omega
    have hxpos : decide ((0 : Int) < x) = true := decide_eq_true p2
    have hxy : (x * y == x * y) = true := by simp
    clear p1 p2 p3 p4 p5 p6 p7 hx hy hz
    go_wp2_with fail
    have HBK : Hid (Blk ((w1.alloc (.cells #[.int .i64 2, .int .i64 3, .int .i64 2, .int .i64 5, .int .i64 3, .int .i64 4, .int .i64 1, .int .i64 7] 48)).alloc (.cells #[.int .i64 3, .int .i64 4] 48)) (w1.heap.size + 1) 48 #[.int .i64 3, .int .i64 4]) := hide (by
      have h := Blk.new (w1.alloc (.cells #[.int .i64 2, .int .i64 3, .int .i64 2, .int .i64 5, .int .i64 3, .int .i64 4, .int .i64 1, .int .i64 7] 48)) 48 #[.int .i64 3, .int .i64 4]
      rw [World.size_alloc] at h
      exact h)
    have HB2 : Hid (Below w1.heap.size w1 ((w1.alloc (.cells #[.int .i64 2, .int .i64 3, .int .i64 2, .int .i64 5, .int .i64 3, .int .i64 4, .int .i64 1, .int .i64 7] 48)).alloc (.cells #[.int .i64 3, .int .i64 4] 48))) := hide (((Below.refl _ _).alloc (Nat.le_refl _) _).alloc (by simp) _)
    replace HX := hide (HX.out.below HB2.out)
    replace HW := hide (HW.out.trans (HB2.out.mono HW.out.size))
    clear HB2
    obtain ⟨w2, hw2⟩ : ∃ w2, (w1.alloc (.cells #[.int .i64 2, .int .i64 3, .int .i64 2, .int .i64 5, .int .i64 3, .int .i64 4, .int .i64 1, .int .i64 7] 48)).alloc (.cells #[.int .i64 3, .int .i64 4] 48) = w2 := ⟨_, rfl⟩
    rw [hw2] at HBK HX HW ⊢
    clear hw2
    refine (HSX.out _ _ _ _ HX.out (HTW.out.below HW.out)).mono ?_
    rintro e w3 ⟨rfl, hb⟩
    replace HX := hide (HX.out.below hb)
    replace HBK := hide (HBK.out.below hb HBK.out.lt)
    replace HW := hide (HW.out.trans (hb.mono HW.out.size))
    have hc0 := HBK.out.cell 0
    have hc1 := HBK.out.cell 1
    simp at hc0 hc1
    clear hb
    go_wp2_with fail
    refine (HSY.out _ _ _ _ HX.out (HTW.out.below HW.out)).mono ?_
    rintro e w3 ⟨rfl, hb⟩
    replace HX := hide (HX.out.below hb)
    replace HBK := hide (HBK.out.below hb HBK.out.lt)
    replace HW := hide (HW.out.trans (hb.mono HW.out.size))
    have hc0 := HBK.out.cell 0
    have hc1 := HBK.out.cell 1
    simp at hc0 hc1
    clear hb
    go_wp2_with fail
    refine (HSZ.out _ _ _ _ HX.out (HTW.out.below HW.out)).mono ?_
    rintro e w3 ⟨rfl, hb⟩
    replace HX := hide (HX.out.below hb)
    replace HBK := hide (HBK.out.below hb HBK.out.lt)
    replace HW := hide (HW.out.trans (hb.mono HW.out.size))
    have hc0 := HBK.out.cell 0
    have hc1 := HBK.out.cell 1
    simp at hc0 hc1
    clear hb
    go_wp2_with fail
    refine (reckoned2_any HF.out _ (HTW.out.below HW.out)).mono ?_
    rintro e w7 ⟨rfl, hb⟩
    replace HW := hide (HW.out.trans (hb.mono HW.out.size))
    clear hb HX HBK hc0 hc1
    go_wp2_with fail
    go_ret
    exact ⟨by simp, HW.out⟩
  · have HP := HPR.out 1 7 good17 (by omega) (by omega) (by omega)
    have p1 : solV X 7 = solV X 1 * solV X 7 := by exact_mod_cast HP.1
    have p2 : 0 < solV X 1 := by exact_mod_cast HP.2.1
    have p3 : (solV X 1).natAbs ≤ 28561 := by exact_mod_cast HP.2.2.1
    have p4 : (solV X 7).natAbs ≤ 28561 := by exact_mod_cast HP.2.2.2.1
    have p5 : solE X 1 = 0 := by exact_mod_cast HP.2.2.2.2.1
    have p6 : solE X 7 = 0 := by exact_mod_cast HP.2.2.2.2.2.1
    have p7 : solE X 7 = 0 := by exact_mod_cast HP.2.2.2.2.2.2
    clear HP HPR
    obtain ⟨x, hx⟩ : ∃ x, solV X 1 = x := ⟨_, rfl⟩
    obtain ⟨y, hy⟩ : ∃ y, solV X 7 = y := ⟨_, rfl⟩
    have hz : solV X 7 = x * y := by rw [p1, hx, hy]
    rw [hx] at p2 p3
    rw [hy] at p4
    have HSX : Hid (∀ (w : World) (A : Option Addr) (n c : Nat), SLL w A n c X → TabW w → Calls Tryd.prog 19 #[.slice A n c, .int .i64 1] w fun e w' => e = .returned (.tuple #[.int .i64 x, .int .i64 0]) ∧ Below w.heap.size w w') := hide (fun w A n c h hT => by
      have h2 := HF.out.solutions A n c X 1 w h hT (by decide)
      rw [hx, p5] at h2
      exact h2)
    have HSY : Hid (∀ (w : World) (A : Option Addr) (n c : Nat), SLL w A n c X → TabW w → Calls Tryd.prog 19 #[.slice A n c, .int .i64 7] w fun e w' => e = .returned (.tuple #[.int .i64 y, .int .i64 0]) ∧ Below w.heap.size w w') := hide (fun w A n c h hT => by
      have h2 := HF.out.solutions A n c X 7 w h hT (by decide)
      rw [hy, p6] at h2
      exact h2)
    have HSZ : Hid (∀ (w : World) (A : Option Addr) (n c : Nat), SLL w A n c X → TabW w → Calls Tryd.prog 19 #[.slice A n c, .int .i64 7] w fun e w' => e = .returned (.tuple #[.int .i64 (x * y), .int .i64 0]) ∧ Below w.heap.size w w') := hide (fun w A n c h hT => by
      have h2 := HF.out.solutions A n c X 7 w h hT (by decide)
      rw [hz, p7] at h2
      exact h2)
    have hwp : IntKind.i64.wrap (x * y) = x * y := by
      have h := abs_mul_le p3 p4
      rw [IntKind.wrap_i64]; omega
    have hxpos : decide ((0 : Int) < x) = true := decide_eq_true p2
    have hxy : (x * y == x * y) = true := by simp
    clear p1 p2 p3 p4 p5 p6 p7 hx hy hz
    go_wp2_with fail
    have HBK : Hid (Blk ((w1.alloc (.cells #[.int .i64 2, .int .i64 3, .int .i64 2, .int .i64 5, .int .i64 3, .int .i64 4, .int .i64 1, .int .i64 7] 48)).alloc (.cells #[.int .i64 1, .int .i64 7] 48)) (w1.heap.size + 1) 48 #[.int .i64 1, .int .i64 7]) := hide (by
      have h := Blk.new (w1.alloc (.cells #[.int .i64 2, .int .i64 3, .int .i64 2, .int .i64 5, .int .i64 3, .int .i64 4, .int .i64 1, .int .i64 7] 48)) 48 #[.int .i64 1, .int .i64 7]
      rw [World.size_alloc] at h
      exact h)
    have HB2 : Hid (Below w1.heap.size w1 ((w1.alloc (.cells #[.int .i64 2, .int .i64 3, .int .i64 2, .int .i64 5, .int .i64 3, .int .i64 4, .int .i64 1, .int .i64 7] 48)).alloc (.cells #[.int .i64 1, .int .i64 7] 48))) := hide (((Below.refl _ _).alloc (Nat.le_refl _) _).alloc (by simp) _)
    replace HX := hide (HX.out.below HB2.out)
    replace HW := hide (HW.out.trans (HB2.out.mono HW.out.size))
    clear HB2
    obtain ⟨w2, hw2⟩ : ∃ w2, (w1.alloc (.cells #[.int .i64 2, .int .i64 3, .int .i64 2, .int .i64 5, .int .i64 3, .int .i64 4, .int .i64 1, .int .i64 7] 48)).alloc (.cells #[.int .i64 1, .int .i64 7] 48) = w2 := ⟨_, rfl⟩
    rw [hw2] at HBK HX HW ⊢
    clear hw2
    refine (HSX.out _ _ _ _ HX.out (HTW.out.below HW.out)).mono ?_
    rintro e w3 ⟨rfl, hb⟩
    replace HX := hide (HX.out.below hb)
    replace HBK := hide (HBK.out.below hb HBK.out.lt)
    replace HW := hide (HW.out.trans (hb.mono HW.out.size))
    have hc0 := HBK.out.cell 0
    have hc1 := HBK.out.cell 1
    simp at hc0 hc1
    clear hb
    go_wp2_with fail
    refine (HSY.out _ _ _ _ HX.out (HTW.out.below HW.out)).mono ?_
    rintro e w3 ⟨rfl, hb⟩
    replace HX := hide (HX.out.below hb)
    replace HBK := hide (HBK.out.below hb HBK.out.lt)
    replace HW := hide (HW.out.trans (hb.mono HW.out.size))
    have hc0 := HBK.out.cell 0
    have hc1 := HBK.out.cell 1
    simp at hc0 hc1
    clear hb
    go_wp2_with fail
    refine (HSZ.out _ _ _ _ HX.out (HTW.out.below HW.out)).mono ?_
    rintro e w3 ⟨rfl, hb⟩
    replace HX := hide (HX.out.below hb)
    replace HBK := hide (HBK.out.below hb HBK.out.lt)
    replace HW := hide (HW.out.trans (hb.mono HW.out.size))
    have hc0 := HBK.out.cell 0
    have hc1 := HBK.out.cell 1
    simp at hc0 hc1
    clear hb
    go_wp2_with fail
    refine (reckoned2_any HF.out _ (HTW.out.below HW.out)).mono ?_
    rintro e w7 ⟨rfl, hb⟩
    replace HW := hide (HW.out.trans (hb.mono HW.out.size))
    clear hb HX HBK hc0 hc1
    go_wp2_with fail
    go_ret
    exact ⟨by simp, HW.out⟩
end Go.Proofs.YtgjblcfcbohjdaaDoor
