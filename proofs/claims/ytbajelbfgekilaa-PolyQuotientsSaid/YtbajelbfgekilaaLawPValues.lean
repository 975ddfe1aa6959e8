/- timbkeep1.PolyValues, for a package laurent that answers as it should. -/
import Derived.Test.YtbajelbfgekilaaLawPRing
import Derived.Test.YtbajelbfgekilaaLpV
namespace Go.Proofs.Ytbajelbfgekilaa
set_option linter.unusedVariables false
set_option linter.unusedSimpArgs false
open Go.RowKit

theorem same_e (la : Int) (xs : List Int) (w : World) (A : Option Addr) (n c : Nat) (B : Option Addr) (m d : Nat) (ha : SL w A n c xs) (hb : SL w B m d xs) :
    Calls Try.prog 32 #[PV la A n c, PV la B m d] w fun e w' => e = .returned (.bool true) ∧ Below w.heap.size w w' := by
  have h := same_k la A n c xs la B m d xs w ha hb
  rw [show (decide (la = la) && eqB xs xs) = true by rw [eqB_true rfl]; simp] at h
  exact h
/-- What the walk needs to know of the polynomials of this law. -/
structure ValF (X Y XY CX CY CM U XU : LP) (e s : Int) : Prop where
  rX : LP.Rt X
  rY : LP.Rt Y
  rXY : LP.Rt XY
  rCX : LP.Rt CX
  rCY : LP.Rt CY
  rCM : LP.Rt CM
  rU : LP.Rt U
  rXU : LP.Rt XU
  e1 : X * Y = XY
  e2 : LP.conj X = CX
  e3 : LP.conj Y = CY
  e4 : LP.conj XY = CM
  e5 : CX * CY = CM
  e6 : LP.conj CX = X
  e7 : X * U = XU
  e8 : LP.canon U = (e, [s])
  e9 : LP.normC (LP.canon XU).2 = LP.normC (LP.canon X).2
  b1 : ∀ g, (LP.ev g X).natAbs ≤ 600
  b2 : ∀ g, (LP.ev g Y).natAbs ≤ 600
  m : ∀ g, LP.ev g XY = LP.ev g X * LP.ev g Y
theorem valF (i0 j0 : Int) (xs ys : List Int) (e s : Int) (he : -20 ≤ e ∧ e ≤ 20) (hs : s = 1 ∨ s = -1) : ∃ XY CX CY CM U XU, ValF (mkP i0 xs) (mkP j0 ys) XY CX CY CM U XU e s := by
  have sX := mkP_sm i0 xs
  have sY := mkP_sm j0 ys
  have sXY := mkP_mul i0 xs sY
  have sU : LP.Sm (LP.of e [s]) (-20) 20 1 := (LP.Sm.of_ (n := 1) (B := 1) (by simp) (by rcases hs with rfl | rfl <;> simp)).mono (by omega) (by omega) (Nat.le_refl _)
  have sXU := mkP_mul i0 xs sU
  exact ⟨_, _, _, _, _, _, ⟨sX.pfl (by omega) (by omega) (by omega) (by omega), sY.pfl (by omega) (by omega) (by omega) (by omega), sXY.pfl (by omega) (by omega) (by omega) (by omega), sX.conj_.pfl (by omega) (by omega) (by omega) (by omega), sY.conj_.pfl (by omega) (by omega) (by omega) (by omega), sXY.conj_.pfl (by omega) (by omega) (by omega) (by omega), sU.pfl (by omega) (by omega) (by omega) (by omega), sXU.pfl (by omega) (by omega) (by omega) (by omega), rfl, rfl, rfl, rfl, (LP.conj_mul _ _).symm, LP.conj_conj _, rfl, LP.canon_term e s hs, LP.norm_unit _ e s hs, fun g => LP.ev_of_le g (rawC_len xs) (rawC_le xs), fun g => LP.ev_of_le g (rawC_len ys) (rawC_le ys), fun g => LP.ev_mul g _ _⟩⟩

set_option maxRecDepth 100000 in
set_option maxHeartbeats 8000000 in
theorem polyValues_any (F : PolyC) (A : Option Addr) (n c : Nat) (B : Option Addr) (m d : Nat) (i0 j0 u0 : Int) (xs ys : List Int) (w : World) (ha : SL w A n c xs) (hb : SL w B m d ys) :
    Calls Try.prog 7 #[.int .i64 i0, .int .i64 j0, .slice A n c, .slice B m d, .int .i64 u0] w fun e w' => e = .returned (.bool true) ∧ Below w.heap.size w w' := by
  have hu0 := Int.emod_nonneg u0 (show (41 : Int) ≠ 0 by omega)
  have hu1 := Int.emod_lt_of_pos u0 (show (0 : Int) < 41 by omega)
  have hs2 : 1 - 2 * (u0 % 2) = 1 ∨ 1 - 2 * (u0 % 2) = -1 := by omega
  obtain ⟨XY, CX, CY, CM, U, XU, R⟩ := valF i0 j0 xs ys (u0 % 41 - 20) (1 - 2 * (u0 % 2)) (by omega) hs2
  have HF := hide F
  have HMX : Hid (∀ (w : World) (A : Option Addr) (n c : Nat), SL w A n c xs → Calls Try.prog 30 #[.int .i64 i0, .slice A n c] w (GivesP w (LP.canon (mkP i0 xs)).1 (LP.canon (mkP i0 xs)).2)) := hide (fun w A n c h => mpoly_any A n c xs i0 w h)
  have HMY : Hid (∀ (w : World) (A : Option Addr) (n c : Nat), SL w A n c ys → Calls Try.prog 30 #[.int .i64 j0, .slice A n c] w (GivesP w (LP.canon (mkP j0 ys)).1 (LP.canon (mkP j0 ys)).2)) := hide (fun w A n c h => mpoly_any A n c ys j0 w h)
  have HMU := hide (fun (w : World) => mbelow_any u0 41 w (by omega) (by omega))
  have hand := i64_and1 u0
  obtain ⟨us, hus⟩ : ∃ us : Int, 1 - 2 * (u0 % 2) = us := ⟨_, rfl⟩
  obtain ⟨ue, hue⟩ : ∃ ue : Int, u0 % 41 - 20 = ue := ⟨_, rfl⟩
  rw [hus, hue] at R
  rw [hus] at hs2
  generalize mkP i0 xs = X at *
  generalize mkP j0 ys = Y at *
  have HR := hide R
  have HA := hide ha
  have HB := hide hb
  have HUS := hide hus
  have HUE := hide hue
  clear F ha hb R hus hue
  go_enter Try.func7, Try.ntmps7
  go_wp2_with fail
  refine (HMX.out _ A n c HA.out).mono ?_
  rintro e w1 ⟨Xa, xn, xc, rfl, hs, _, hb⟩
  have HX := hide hs
  have HW := hide hb
  clear hs hb HMX HA
  go_wp2_with fail
  refine (HMY.out _ B m d (HB.out.below HW.out)).mono ?_
  rintro e w2 ⟨Ya, yn, yc, rfl, hs, _, hb⟩
  have HY := hide hs
  replace HX := hide (HX.out.below hb)
  replace HW := hide (HW.out.trans (hb.mono HW.out.size))
  clear hs hb HMY HB
  go_wp2_with fail
  have hb4 : Below w2.heap.size w2 (((w2.alloc (.cells #[.int .i64 (LP.canon X).1, .slice Xa xn xc] 24)).alloc (.cells #[.int .i64 (LP.canon Y).1, .slice Ya yn yc] 24)).alloc (.cells #[.int .i64 1, .int .i64 (-1)] 3)) := (((Below.refl _ _).alloc (Nat.le_refl _) _).alloc (by simp) _).alloc (by simp; omega) _
  have hbx := ((Blk.new w2 24 #[.int .i64 (LP.canon X).1, .slice Xa xn xc]).alloc (.cells #[.int .i64 (LP.canon Y).1, .slice Ya yn yc] 24)).alloc (.cells #[.int .i64 1, .int .i64 (-1)] 3)
  have hby := (Blk.new (w2.alloc (.cells #[.int .i64 (LP.canon X).1, .slice Xa xn xc] 24)) 24 #[.int .i64 (LP.canon Y).1, .slice Ya yn yc]).alloc (.cells #[.int .i64 1, .int .i64 (-1)] 3)
  have hbz := Blk.new ((w2.alloc (.cells #[.int .i64 (LP.canon X).1, .slice Xa xn xc] 24)).alloc (.cells #[.int .i64 (LP.canon Y).1, .slice Ya yn yc] 24)) 3 #[.int .i64 1, .int .i64 (-1)]
  simp only [World.size_alloc] at hby hbz
  obtain ⟨g, hg⟩ : ∃ g, w2.heap.size = g := ⟨_, rfl⟩
  obtain ⟨w4, hw4⟩ : ∃ w4, (((w2.alloc (.cells #[.int .i64 (LP.canon X).1, .slice Xa xn xc] 24)).alloc (.cells #[.int .i64 (LP.canon Y).1, .slice Ya yn yc] 24)).alloc (.cells #[.int .i64 1, .int .i64 (-1)] 3)) = w4 := ⟨_, rfl⟩
  replace HX := hide (HX.out.below hb4)
  replace HY := hide (HY.out.below hb4)
  replace HW := hide (HW.out.trans (hb4.mono HW.out.size))
  rw [hg, hw4] at hbx hby hbz
  rw [hg]
  rw [hw4] at HX HY HW ⊢
  have BX := hide hbx
  have BY := hide hby
  have BZ := hide hbz
  have lz := hbz.lt
  clear hb4 hbx hby hbz hg hw4
  go_loopw [42] (fun iv wr => ∃ k : Nat, k ≤ 2 ∧ iv = .int .i64 k ∧ Below w4.heap.size w4 wr) (fun iv _ => 2 - (intOf iv).toNat)
  case atStart => exact ⟨0, by omega, rfl, Below.refl _ _⟩
  case round =>
    obtain ⟨k, hk, rfl, hbw⟩ := hrel
    replace BX := hide (BX.out.below hbw (by omega))
    replace BY := hide (BY.out.below hbw (by omega))
    replace BZ := hide (BZ.out.below hbw (by omega))
    replace HX := hide (HX.out.below hbw)
    replace HY := hide (HY.out.below hbw)
    replace HW := hide (HW.out.trans (hbw.mono HW.out.size))
    have HBW := hide hbw
    have lr : g + 1 + 1 < wr.heap.size := BZ.out.lt
    clear hbw lz
    have hx0 := BX.out.cell 0
    have hx1 := BX.out.cell 1
    have hy0 := BY.out.cell 0
    have hy1 := BY.out.cell 1
    simp at hx0 hx1 hy0 hy1
    by_cases hlt : k < 2
    · obtain ⟨u, hu, huu, hz⟩ : ∃ u : Int, (u = 1 ∨ u = -1) ∧ (Lit.int .i64 u).wf = true ∧ wr.cell? ⟨g + 1 + 1, k, none⟩ = some (.int .i64 u) := by
        have h := BZ.out.cell k
        have : k = 0 ∨ k = 1 := by omega
        rcases this with rfl | rfl
        · exact ⟨1, .inl rfl, by decide, by simpa using h⟩
        · exact ⟨-1, .inr rfl, by decide, by simpa using h⟩
      have EX := LP.evalR_canon HR.out.rX hu
      have EY := LP.evalR_canon HR.out.rY hu
      have EXY := LP.evalR_canon HR.out.rXY hu
      obtain ⟨vx, hvx⟩ : ∃ vx, LP.ev (decide (u = -1)) X = vx := ⟨_, rfl⟩
      obtain ⟨vy, hvy⟩ : ∃ vy, LP.ev (decide (u = -1)) Y = vy := ⟨_, rfl⟩
      have hm := HR.out.m (decide (u = -1))
      have hb1 := HR.out.b1 (decide (u = -1))
      have hb2 := HR.out.b2 (decide (u = -1))
      rw [hvx] at EX hm hb1
      rw [hvy] at EY hm hb2
      rw [hm] at EXY
      have hwm : IntKind.i64.wrap (vx * vy) = vx * vy := by
        have h : (vx * vy).natAbs ≤ 600 * 600 := by rw [Int.natAbs_mul]; exact Nat.mul_le_mul hb1 hb2
        rw [IntKind.wrap_i64]; omega
      have hvv : (vx * vy != vx * vy) = false := by simp
      have HEX := hide EX
      have HEY := hide EY
      have HEXY := hide EXY
      clear EX EY EXY hvx hvy hm hb1 hb2 hu
      go_wp2_with fail
      refine (HF.out.eval (LP.canon X).1 Xa xn xc (LP.canon X).2 u _ HX.out HR.out.rX.wf huu).mono ?_
      rintro e w5 ⟨rfl, hb⟩
      rw [HEX.out.1, HEX.out.2]
      have BX5 := hide (BX.out.below hb (by omega))
      have BY5 := hide (BY.out.below hb (by omega))
      have HX5 := hide (HX.out.below hb)
      have HY5 := hide (HY.out.below hb)
      have HB5 := hide (HBW.out.trans (hb.mono HBW.out.size))
      have hx0 := BX5.out.cell 0
      have hx1 := BX5.out.cell 1
      have hy0 := BY5.out.cell 0
      have hy1 := BY5.out.cell 1
      simp at hx0 hx1 hy0 hy1
      have l5 : g + 1 + 1 < w5.heap.size := Nat.lt_of_lt_of_le lr hb.size
      clear hb
      go_wp2_with fail
      refine (HF.out.eval (LP.canon Y).1 Ya yn yc (LP.canon Y).2 u _ HY5.out HR.out.rY.wf huu).mono ?_
      rintro e w6 ⟨rfl, hb⟩
      rw [HEY.out.1, HEY.out.2]
      have BX6 := hide (BX5.out.below hb (by omega))
      have BY6 := hide (BY5.out.below hb (by omega))
      have HX6 := hide (HX5.out.below hb)
      have HY6 := hide (HY5.out.below hb)
      have HB6 := hide (HB5.out.trans (hb.mono HB5.out.size))
      have hx0 := BX6.out.cell 0
      have hx1 := BX6.out.cell 1
      have hy0 := BY6.out.cell 0
      have hy1 := BY6.out.cell 1
      simp at hx0 hx1 hy0 hy1
      clear hb
      go_wp2_with fail
      refine (mul_c HF.out HR.out.rX HR.out.rY HR.out.rXY HR.out.e1 _ _ _ _ _ _ _ HX6.out HY6.out).mono ?_
      rintro e w7 ⟨Pa, pn, pc, rfl, hs, _, hb⟩
      have HP := hide hs
      have HB7 := hide (HB6.out.trans (hb.mono HB6.out.size))
      clear hb hs
      go_wp2_with fail
      refine (HF.out.eval (LP.canon XY).1 Pa pn pc (LP.canon XY).2 u _ HP.out HR.out.rXY.wf huu).mono ?_
      rintro e w8 ⟨rfl, hb⟩
      rw [HEXY.out.1, HEXY.out.2]
      have HB8 := hide (HB7.out.trans (hb.mono HB7.out.size))
      clear hb
      go_wp2_with fail
      go_roundw
      case rel => exact ⟨k + 1, by omega, by go_num, HB8.out⟩
      case measure => simp [intOf]; omega
    · skip
      obtain rfl : k = 2 := by omega
      clear hx0 hx1 hy0 hy1 hk hlt
      have LX := BX.out.lt
      have LY := BY.out.lt
      clear BZ lr HBW
      go_upto_region 11 with fail
      have hX0 := BX.out.cell 0
      have hX1 := BX.out.cell 1
      simp at hX0 hX1
      go_wp2_with fail
      have hq := HF.out.conj (LP.canon X).1 Xa xn xc (LP.canon X).2 _ HX.out HR.out.rX.wf
      rw [LP.conjR_canon HR.out.rX (by rw [HR.out.e2]; exact HR.out.rCX), HR.out.e2] at hq
      refine hq.mono ?_
      rintro e v ⟨Ca, cn, cc, rfl, hs, _, hb⟩
      clear hX0 hX1
      clear hq
      have hb9 : Below wr.heap.size wr (v.alloc (.cells #[.int .i64 (LP.canon CX).1, .slice Ca cn cc] 24)) := hb.alloc hb.size _
      replace BX := hide (BX.out.below hb9 LX)
      replace HX := hide (HX.out.below hb9)
      replace LX := BX.out.lt
      replace BY := hide (BY.out.below hb9 LY)
      replace HY := hide (HY.out.below hb9)
      replace LY := BY.out.lt
      replace HW := hide (HW.out.trans (hb9.mono HW.out.size))
      have BC := hide (Blk.new v 24 #[.int .i64 (LP.canon CX).1, .slice Ca cn cc])
      have HC := hide (hs.below ((Below.refl _ _).alloc (Nat.le_refl _) (.cells #[.int .i64 (LP.canon CX).1, .slice Ca cn cc] 24)))
      have LC := BC.out.lt
      go_upto_region 12 with fail
      obtain ⟨gC, hg9⟩ : ∃ gC, v.heap.size = gC := ⟨_, rfl⟩
      obtain ⟨z1, hz9⟩ : ∃ z1, v.alloc (.cells #[.int .i64 (LP.canon CX).1, .slice Ca cn cc] 24) = z1 := ⟨_, rfl⟩
      rw [hg9] at BC LC ⊢
      rw [hz9] at BX HX LX BY HY LY BC HC LC HW ⊢
      clear hb9 hb hs hg9 hz9
      have hY0 := BY.out.cell 0
      have hY1 := BY.out.cell 1
      simp at hY0 hY1
      go_wp2_with fail
      have hq := HF.out.conj (LP.canon Y).1 Ya yn yc (LP.canon Y).2 _ HY.out HR.out.rY.wf
      rw [LP.conjR_canon HR.out.rY (by rw [HR.out.e3]; exact HR.out.rCY), HR.out.e3] at hq
      refine hq.mono ?_
      rintro e v ⟨Da, dn, dc, rfl, hs, _, hb⟩
      clear hY0 hY1
      clear hq
      have hb9 : Below z1.heap.size z1 (v.alloc (.cells #[.int .i64 (LP.canon CY).1, .slice Da dn dc] 24)) := hb.alloc hb.size _
      replace BX := hide (BX.out.below hb9 LX)
      replace HX := hide (HX.out.below hb9)
      replace LX := BX.out.lt
      replace BY := hide (BY.out.below hb9 LY)
      replace HY := hide (HY.out.below hb9)
      replace LY := BY.out.lt
      replace BC := hide (BC.out.below hb9 LC)
      replace HC := hide (HC.out.below hb9)
      replace LC := BC.out.lt
      replace HW := hide (HW.out.trans (hb9.mono HW.out.size))
      have BD := hide (Blk.new v 24 #[.int .i64 (LP.canon CY).1, .slice Da dn dc])
      have HD := hide (hs.below ((Below.refl _ _).alloc (Nat.le_refl _) (.cells #[.int .i64 (LP.canon CY).1, .slice Da dn dc] 24)))
      have LD := BD.out.lt
      go_upto_region 13 with fail
      obtain ⟨gD, hg9⟩ : ∃ gD, v.heap.size = gD := ⟨_, rfl⟩
      obtain ⟨z2, hz9⟩ : ∃ z2, v.alloc (.cells #[.int .i64 (LP.canon CY).1, .slice Da dn dc] 24) = z2 := ⟨_, rfl⟩
      rw [hg9] at BD LD ⊢
      rw [hz9] at BX HX LX BY HY LY BC HC LC BD HD LD HW ⊢
      clear hb9 hb hs hg9 hz9
      have hX0 := BX.out.cell 0
      have hX1 := BX.out.cell 1
      have hY0 := BY.out.cell 0
      have hY1 := BY.out.cell 1
      simp at hX0 hX1 hY0 hY1
      go_wp2_with fail
      refine (mul_c HF.out HR.out.rX HR.out.rY HR.out.rXY HR.out.e1 _ _ _ _ _ _ _ HX.out HY.out).mono ?_
      rintro e v0 ⟨Pa, pn, pc, rfl, hs0, _, hb0⟩
      have HP := hide hs0
      have HB0 := hide hb0
      clear hX0 hX1 hY0 hY1
      clear hs0 hb0
      go_wp2_with fail
      have hq := HF.out.conj (LP.canon XY).1 Pa pn pc (LP.canon XY).2 v0 HP.out HR.out.rXY.wf
      rw [LP.conjR_canon HR.out.rXY (by rw [HR.out.e4]; exact HR.out.rCM), HR.out.e4] at hq
      refine hq.mono ?_
      rintro e v ⟨Ma, mn, mc, rfl, hs, _, hb1⟩
      have hb := HB0.out.trans (hb1.mono HB0.out.size)
      clear hq hb1 HP HB0
      have hb9 : Below z2.heap.size z2 (v.alloc (.cells #[.int .i64 (LP.canon CM).1, .slice Ma mn mc] 24)) := hb.alloc hb.size _
      replace BX := hide (BX.out.below hb9 LX)
      replace HX := hide (HX.out.below hb9)
      replace LX := BX.out.lt
      replace BY := hide (BY.out.below hb9 LY)
      replace HY := hide (HY.out.below hb9)
      replace LY := BY.out.lt
      replace BC := hide (BC.out.below hb9 LC)
      replace HC := hide (HC.out.below hb9)
      replace LC := BC.out.lt
      replace BD := hide (BD.out.below hb9 LD)
      replace HD := hide (HD.out.below hb9)
      replace LD := BD.out.lt
      replace HW := hide (HW.out.trans (hb9.mono HW.out.size))
      have BM := hide (Blk.new v 24 #[.int .i64 (LP.canon CM).1, .slice Ma mn mc])
      have HM := hide (hs.below ((Below.refl _ _).alloc (Nat.le_refl _) (.cells #[.int .i64 (LP.canon CM).1, .slice Ma mn mc] 24)))
      have LM := BM.out.lt
      go_upto_region 14 with fail
      obtain ⟨gM, hg9⟩ : ∃ gM, v.heap.size = gM := ⟨_, rfl⟩
      obtain ⟨z3, hz9⟩ : ∃ z3, v.alloc (.cells #[.int .i64 (LP.canon CM).1, .slice Ma mn mc] 24) = z3 := ⟨_, rfl⟩
      rw [hg9] at BM LM ⊢
      rw [hz9] at BX HX LX BY HY LY BC HC LC BD HD LD BM HM LM HW ⊢
      clear hb9 hb hs hg9 hz9
      have hC0 := BC.out.cell 0
      have hC1 := BC.out.cell 1
      simp at hC0 hC1
      go_wp2_with fail
      have hq := HF.out.conj (LP.canon CX).1 Ca cn cc (LP.canon CX).2 _ HC.out HR.out.rCX.wf
      rw [LP.conjR_canon HR.out.rCX (by rw [HR.out.e6]; exact HR.out.rX), HR.out.e6] at hq
      refine hq.mono ?_
      rintro e v ⟨Ka, kn, kc, rfl, hs, _, hb⟩
      clear hC0 hC1
      clear hq
      have hb9 : Below z3.heap.size z3 (v.alloc (.cells #[.int .i64 (LP.canon X).1, .slice Ka kn kc] 24)) := hb.alloc hb.size _
      replace BX := hide (BX.out.below hb9 LX)
      replace HX := hide (HX.out.below hb9)
      replace LX := BX.out.lt
      replace BY := hide (BY.out.below hb9 LY)
      replace HY := hide (HY.out.below hb9)
      replace LY := BY.out.lt
      replace BC := hide (BC.out.below hb9 LC)
      replace HC := hide (HC.out.below hb9)
      replace LC := BC.out.lt
      replace BD := hide (BD.out.below hb9 LD)
      replace HD := hide (HD.out.below hb9)
      replace LD := BD.out.lt
      replace BM := hide (BM.out.below hb9 LM)
      replace HM := hide (HM.out.below hb9)
      replace LM := BM.out.lt
      replace HW := hide (HW.out.trans (hb9.mono HW.out.size))
      have BK := hide (Blk.new v 24 #[.int .i64 (LP.canon X).1, .slice Ka kn kc])
      have HK := hide (hs.below ((Below.refl _ _).alloc (Nat.le_refl _) (.cells #[.int .i64 (LP.canon X).1, .slice Ka kn kc] 24)))
      have LK := BK.out.lt
      go_upto_region 15 with fail
      obtain ⟨gK, hg9⟩ : ∃ gK, v.heap.size = gK := ⟨_, rfl⟩
      obtain ⟨z4, hz9⟩ : ∃ z4, v.alloc (.cells #[.int .i64 (LP.canon X).1, .slice Ka kn kc] 24) = z4 := ⟨_, rfl⟩
      rw [hg9] at BK LK ⊢
      rw [hz9] at BX HX LX BY HY LY BC HC LC BD HD LD BM HM LM BK HK LK HW ⊢
      clear hb9 hb hs hg9 hz9
      go_wp2_with (simp only [hand])
      refine (HMU.out _).mono ?_
      rintro e w' ⟨rfl, hw'⟩
      subst hw'
      go_upto_region 16 with (simp only [hand])
      rw [HUS.out, HUE.out]
      have hU1 : ue = (LP.canon U).1 := by rw [HR.out.e8]
      have hU2 : [us] = (LP.canon U).2 := by rw [HR.out.e8]
      have hb : Below z4.heap.size z4 (z4.alloc (.cells #[.int .i64 us] 3)) := (Below.refl _ _).alloc (Nat.le_refl _) _
      have hs : SL (z4.alloc (.cells #[.int .i64 us] 3)) (some ⟨z4.heap.size, 0, none⟩) 1 1 (LP.canon U).2 := by rw [← hU2]; exact SL.lit z4 [us] (by simp) rfl rfl
      rw [hU1]
      obtain ⟨gs, hgs⟩ : ∃ gs, z4.heap.size = gs := ⟨_, rfl⟩
      obtain ⟨v, hv⟩ : ∃ v, z4.alloc (.cells #[.int .i64 us] 3) = v := ⟨_, rfl⟩
      rw [hgs] at hs
      have hsv : v.heap.size = gs + 1 := by rw [← hv, ← hgs]; simp
      rw [hv] at hs hb ⊢
      rw [hgs, ← hsv]
      clear hgs hv hsv hU2
      have hb9 : Below z4.heap.size z4 (v.alloc (.cells #[.int .i64 (LP.canon U).1, .slice (some ⟨gs, 0, none⟩) 1 1] 24)) := hb.alloc hb.size _
      replace BX := hide (BX.out.below hb9 LX)
      replace HX := hide (HX.out.below hb9)
      replace LX := BX.out.lt
      replace BY := hide (BY.out.below hb9 LY)
      replace HY := hide (HY.out.below hb9)
      replace LY := BY.out.lt
      replace BC := hide (BC.out.below hb9 LC)
      replace HC := hide (HC.out.below hb9)
      replace LC := BC.out.lt
      replace BD := hide (BD.out.below hb9 LD)
      replace HD := hide (HD.out.below hb9)
      replace LD := BD.out.lt
      replace BM := hide (BM.out.below hb9 LM)
      replace HM := hide (HM.out.below hb9)
      replace LM := BM.out.lt
      replace BK := hide (BK.out.below hb9 LK)
      replace HK := hide (HK.out.below hb9)
      replace LK := BK.out.lt
      replace HW := hide (HW.out.trans (hb9.mono HW.out.size))
      have BU := hide (Blk.new v 24 #[.int .i64 (LP.canon U).1, .slice (some ⟨gs, 0, none⟩) 1 1])
      have HU := hide (hs.below ((Below.refl _ _).alloc (Nat.le_refl _) (.cells #[.int .i64 (LP.canon U).1, .slice (some ⟨gs, 0, none⟩) 1 1] 24)))
      have LU := BU.out.lt
      obtain ⟨gU, hg9⟩ : ∃ gU, v.heap.size = gU := ⟨_, rfl⟩
      obtain ⟨z5, hz9⟩ : ∃ z5, v.alloc (.cells #[.int .i64 (LP.canon U).1, .slice (some ⟨gs, 0, none⟩) 1 1] 24) = z5 := ⟨_, rfl⟩
      rw [hg9] at BU LU ⊢
      rw [hz9] at BX HX LX BY HY LY BC HC LC BD HD LD BM HM LM BK HK LK BU HU LU HW ⊢
      clear hb9 hb hs hg9 hz9
      clear hU1
      have hX0 := BX.out.cell 0
      have hX1 := BX.out.cell 1
      simp at hX0 hX1
      go_wp2_with fail
      have hq := HF.out.norm (LP.canon X).1 Xa xn xc (LP.canon X).2 _ HX.out HR.out.rX.wf
      rw [LP.normR_canon HR.out.rX] at hq
      refine hq.mono ?_
      rintro e v ⟨Na, nn, nc, rfl, hs, _, hb⟩
      clear hX0 hX1
      clear hq
      have hb9 : Below z5.heap.size z5 (v.alloc (.cells #[.int .i64 0, .slice Na nn nc] 24)) := hb.alloc hb.size _
      replace BX := hide (BX.out.below hb9 LX)
      replace HX := hide (HX.out.below hb9)
      replace LX := BX.out.lt
      replace BY := hide (BY.out.below hb9 LY)
      replace HY := hide (HY.out.below hb9)
      replace LY := BY.out.lt
      replace BC := hide (BC.out.below hb9 LC)
      replace HC := hide (HC.out.below hb9)
      replace LC := BC.out.lt
      replace BD := hide (BD.out.below hb9 LD)
      replace HD := hide (HD.out.below hb9)
      replace LD := BD.out.lt
      replace BM := hide (BM.out.below hb9 LM)
      replace HM := hide (HM.out.below hb9)
      replace LM := BM.out.lt
      replace BK := hide (BK.out.below hb9 LK)
      replace HK := hide (HK.out.below hb9)
      replace LK := BK.out.lt
      replace BU := hide (BU.out.below hb9 LU)
      replace HU := hide (HU.out.below hb9)
      replace LU := BU.out.lt
      replace HW := hide (HW.out.trans (hb9.mono HW.out.size))
      have BN := hide (Blk.new v 24 #[.int .i64 0, .slice Na nn nc])
      have HN := hide (hs.below ((Below.refl _ _).alloc (Nat.le_refl _) (.cells #[.int .i64 0, .slice Na nn nc] 24)))
      have LN := BN.out.lt
      go_upto_region 17 with fail
      obtain ⟨gN, hg9⟩ : ∃ gN, v.heap.size = gN := ⟨_, rfl⟩
      obtain ⟨z6, hz9⟩ : ∃ z6, v.alloc (.cells #[.int .i64 0, .slice Na nn nc] 24) = z6 := ⟨_, rfl⟩
      rw [hg9] at BN LN ⊢
      rw [hz9] at BX HX LX BY HY LY BC HC LC BD HD LD BM HM LM BK HK LK BU HU LU BN HN LN HW ⊢
      clear hb9 hb hs hg9 hz9
      have hX0 := BX.out.cell 0
      have hX1 := BX.out.cell 1
      have hU0 := BU.out.cell 0
      have hU1 := BU.out.cell 1
      simp at hX0 hX1 hU0 hU1
      go_wp2_with fail
      refine (mul_c HF.out HR.out.rX HR.out.rU HR.out.rXU HR.out.e7 _ _ _ _ _ _ _ HX.out HU.out).mono ?_
      rintro e v0 ⟨Qa, qn, qc, rfl, hs0, _, hb0⟩
      have HP := hide hs0
      have HB0 := hide hb0
      clear hX0 hX1 hU0 hU1
      clear hs0 hb0
      go_wp2_with fail
      have hq := HF.out.norm (LP.canon XU).1 Qa qn qc (LP.canon XU).2 v0 HP.out HR.out.rXU.wf
      rw [LP.normR_canon HR.out.rXU, HR.out.e9] at hq
      refine hq.mono ?_
      rintro e v ⟨Oa, on, oc, rfl, hs, _, hb1⟩
      have hb := HB0.out.trans (hb1.mono HB0.out.size)
      clear hq hb1 HP HB0
      have hb9 : Below z6.heap.size z6 (v.alloc (.cells #[.int .i64 0, .slice Oa on oc] 24)) := hb.alloc hb.size _
      replace BX := hide (BX.out.below hb9 LX)
      replace HX := hide (HX.out.below hb9)
      replace LX := BX.out.lt
      replace BY := hide (BY.out.below hb9 LY)
      replace HY := hide (HY.out.below hb9)
      replace LY := BY.out.lt
      replace BC := hide (BC.out.below hb9 LC)
      replace HC := hide (HC.out.below hb9)
      replace LC := BC.out.lt
      replace BD := hide (BD.out.below hb9 LD)
      replace HD := hide (HD.out.below hb9)
      replace LD := BD.out.lt
      replace BM := hide (BM.out.below hb9 LM)
      replace HM := hide (HM.out.below hb9)
      replace LM := BM.out.lt
      replace BK := hide (BK.out.below hb9 LK)
      replace HK := hide (HK.out.below hb9)
      replace LK := BK.out.lt
      replace BU := hide (BU.out.below hb9 LU)
      replace HU := hide (HU.out.below hb9)
      replace LU := BU.out.lt
      replace BN := hide (BN.out.below hb9 LN)
      replace HN := hide (HN.out.below hb9)
      replace LN := BN.out.lt
      replace HW := hide (HW.out.trans (hb9.mono HW.out.size))
      have BO := hide (Blk.new v 24 #[.int .i64 0, .slice Oa on oc])
      have HO := hide (hs.below ((Below.refl _ _).alloc (Nat.le_refl _) (.cells #[.int .i64 0, .slice Oa on oc] 24)))
      have LO := BO.out.lt
      go_upto_region 18 with fail
      obtain ⟨gO, hg9⟩ : ∃ gO, v.heap.size = gO := ⟨_, rfl⟩
      obtain ⟨z7, hz9⟩ : ∃ z7, v.alloc (.cells #[.int .i64 0, .slice Oa on oc] 24) = z7 := ⟨_, rfl⟩
      rw [hg9] at BO LO ⊢
      rw [hz9] at BX HX LX BY HY LY BC HC LC BD HD LD BM HM LM BK HK LK BU HU LU BN HN LN BO HO LO HW ⊢
      clear hb9 hb hs hg9 hz9
      refine wp_region_noPanic ?_
      refine wp_region_held_drew (S := fun x => Below z7.heap.size z7 x) (by kernel_rfl) (Below.refl _ _).drew (fun hS0 => ?_)
      refine wpAnyH_1g 0 rfl (by kernel_rfl) rfl ?_
      refine wp_call [] rfl rfl eMultK rfl ((multiplied_k HF.out _).mono ?_)
      rintro e y1 ⟨rfl, hb1⟩
      have hS1 : Below z7.heap.size z7 y1 := hS0.trans (hb1.mono hS0.size)
      refine ⟨_, rfl, hS1, ?_⟩
      go_frame
      refine wpAnyH_tk 1 (v := .bool true) rfl (by kernel_rfl) (by kernel_rfl) (by kernel_rfl) (yi rfl fun x hx => gives_move (.inl rfl) rfl) hS1 ?_
      go_frame
      refine wpAnyH_tk 2 (v := .int .i64 0) rfl (by kernel_rfl) (by kernel_rfl) (by kernel_rfl) (yi rfl fun x hx => gives_move (.inl rfl) rfl) hS1 ?_
      go_frame
      refine wpAnyH_tk 3 (v := .bool true) rfl (by kernel_rfl) (by kernel_rfl) (by kernel_rfl) (yi rfl fun x hx => gives_eqlE rfl rfl rfl rfl) hS1 ?_
      go_frame
      refine wpAnyH_tk 4 (v := .bool true) rfl (by kernel_rfl) (by kernel_rfl) (by kernel_rfl) (yi rfl fun x hx => gives_pick rfl rfl rfl) hS1 ?_
      go_frame
      refine wpAnyH_tk 5 (v := .bool true) rfl (by kernel_rfl) (by kernel_rfl) (by kernel_rfl) (yi rfl fun x hx => gives_move (.inl rfl) rfl) hS1 ?_
      go_frame
      refine wpAnyH_tk 6 (v := .int .i64 0) rfl (by kernel_rfl) (by kernel_rfl) (by kernel_rfl) (yi rfl fun x hx => gives_move (.inl rfl) rfl) hS1 ?_
      go_frame
      refine wpAnyH_tk 7 (v := .bool true) rfl (by kernel_rfl) (by kernel_rfl) (by kernel_rfl) (yi rfl fun x hx => gives_eqlE rfl rfl rfl rfl) hS1 ?_
      go_frame
      refine wpAnyH_tk 8 (v := .bool true) rfl (by kernel_rfl) (by kernel_rfl) (by kernel_rfl) (yi rfl fun x hx => gives_pick rfl rfl rfl) hS1 ?_
      go_frame
      refine wpAnyH_tk 9 (v := .bool true) rfl (by kernel_rfl) (by kernel_rfl) (by kernel_rfl) (yi rfl fun x hx => gives_move (.inl rfl) rfl) hS1 ?_
      go_frame
      refine wpAnyH_tk 10 (v := .int .i64 0) rfl (by kernel_rfl) (by kernel_rfl) (by kernel_rfl) (yi rfl fun x hx => gives_move (.inl rfl) rfl) hS1 ?_
      go_frame
      refine wpAnyH_tk 11 (v := .bool true) rfl (by kernel_rfl) (by kernel_rfl) (by kernel_rfl) (yi rfl fun x hx => gives_eqlE rfl rfl rfl rfl) hS1 ?_
      go_frame
      refine wpAnyH_tk 12 (v := .bool true) rfl (by kernel_rfl) (by kernel_rfl) (by kernel_rfl) (yi rfl fun x hx => gives_pick rfl rfl rfl) hS1 ?_
      go_frame
      refine wpAnyH_tk 13 (v := .bool true) rfl (by kernel_rfl) (by kernel_rfl) (by kernel_rfl) (yi rfl fun x hx => gives_move (.inl rfl) rfl) hS1 ?_
      go_frame
      refine wpAnyH_tk 14 (v := .int .i64 0) rfl (by kernel_rfl) (by kernel_rfl) (by kernel_rfl) (yi rfl fun x hx => gives_move (.inl rfl) rfl) hS1 ?_
      go_frame
      refine wpAnyH_tk 15 (v := .bool true) rfl (by kernel_rfl) (by kernel_rfl) (by kernel_rfl) (yi rfl fun x hx => gives_eqlE rfl rfl rfl rfl) hS1 ?_
      go_frame
      refine wpAnyH_tk 16 (v := .bool true) rfl (by kernel_rfl) (by kernel_rfl) (by kernel_rfl) (yi rfl fun x hx => gives_pick rfl rfl rfl) hS1 ?_
      go_frame
      refine wpAnyH_tk 17 (v := .bool true) rfl (by kernel_rfl) (by kernel_rfl) (by kernel_rfl) (yi rfl fun x hx => gives_move (.inl rfl) rfl) hS1 ?_
      go_frame
      refine wpAnyH_tk 18 (v := .int .i64 0) rfl (by kernel_rfl) (by kernel_rfl) (by kernel_rfl) (yi rfl fun x hx => gives_move (.inl rfl) rfl) hS1 ?_
      go_frame
      refine wpAnyH_tk 19 (v := .bool true) rfl (by kernel_rfl) (by kernel_rfl) (by kernel_rfl) (yi rfl fun x hx => gives_eqlE rfl rfl rfl rfl) hS1 ?_
      go_frame
      refine wpAnyH_tk 20 (v := .bool true) rfl (by kernel_rfl) (by kernel_rfl) (by kernel_rfl) (yi rfl fun x hx => gives_pick rfl rfl rfl) hS1 ?_
      go_frame
      refine wpAnyH_tk 21 (v := .bool true) rfl (by kernel_rfl) (by kernel_rfl) (by kernel_rfl) (yi rfl fun x hx => gives_move (.inl rfl) rfl) hS1 ?_
      go_frame
      refine wpAnyH_tk 22 (v := .int .i64 0) rfl (by kernel_rfl) (by kernel_rfl) (by kernel_rfl) (yi rfl fun x hx => gives_move (.inl rfl) rfl) hS1 ?_
      go_frame
      refine wpAnyH_tk 23 (v := .bool true) rfl (by kernel_rfl) (by kernel_rfl) (by kernel_rfl) (yi rfl fun x hx => gives_eqlE rfl rfl rfl rfl) hS1 ?_
      go_frame
      refine wpAnyH_tk 24 (v := .bool true) rfl (by kernel_rfl) (by kernel_rfl) (by kernel_rfl) (yi rfl fun x hx => gives_pick rfl rfl rfl) hS1 ?_
      go_frame
      refine wpAnyH_tk 25 (v := .bool true) rfl (by kernel_rfl) (by kernel_rfl) (by kernel_rfl) (yi rfl fun x hx => gives_move (.inl rfl) rfl) hS1 ?_
      go_frame
      refine wpAnyH_tk 26 (v := PV (LP.canon CM).1 Ma mn mc) rfl (by kernel_rfl) (by kernel_rfl) (by kernel_rfl) (yi rfl fun x hx => gives_loadRow rfl rfl (BM.out.below hx LM) Try.underlying24 (by kernel_rfl) (by kernel_rfl)) hS1 ?_
      go_frame
      refine wpAnyH_tk 27 (v := PV (LP.canon CX).1 Ca cn cc) rfl (by kernel_rfl) (by kernel_rfl) (by kernel_rfl) (yi rfl fun x hx => gives_loadRow rfl rfl (BC.out.below hx LC) Try.underlying24 (by kernel_rfl) (by kernel_rfl)) hS1 ?_
      go_frame
      refine wpAnyH_tk 28 (v := PV (LP.canon CY).1 Da dn dc) rfl (by kernel_rfl) (by kernel_rfl) (by kernel_rfl) (yi rfl fun x hx => gives_loadRow rfl rfl (BD.out.below hx LD) Try.underlying24 (by kernel_rfl) (by kernel_rfl)) hS1 ?_
      go_frame
      refine wpAnyH_1g 29 rfl (by kernel_rfl) rfl ?_
      refine wp_call [PV (LP.canon CX).1 Ca cn cc, PV (LP.canon CY).1 Da dn dc] rfl rfl eMulK rfl ((mul_c HF.out HR.out.rCX HR.out.rCY HR.out.rCM HR.out.e5 _ _ _ _ _ _ _ (HC.out.below hS1) (HD.out.below hS1)).mono ?_)
      rintro e y2 ⟨q, qn, qc, rfl, hq, _, hb2⟩
      have hS2 : Below z7.heap.size z7 y2 := hS1.trans (hb2.mono hS1.size)
      refine ⟨_, rfl, hS2, ?_⟩
      go_frame
      refine wpAnyH_1g 30 rfl (by kernel_rfl) rfl ?_
      refine wp_call [PV (LP.canon CM).1 Ma mn mc, PV (LP.canon CM).1 q qn qc] rfl rfl eSameK rfl ((same_e (LP.canon CM).1 (LP.canon CM).2 _ _ _ _ _ _ _ (HM.out.below hS2) hq).mono ?_)
      rintro e y3 ⟨rfl, hb3⟩
      have hS3 : Below z7.heap.size z7 y3 := hS2.trans (hb3.mono hS2.size)
      refine ⟨_, rfl, hS3, ?_⟩
      go_frame
      refine wpAnyH_tk 31 (v := .bool true) rfl (by kernel_rfl) (by kernel_rfl) (by kernel_rfl) (yi rfl fun x hx => gives_pick rfl rfl rfl) hS3 ?_
      go_frame
      refine wpAnyH_tk 32 (v := .bool true) rfl (by kernel_rfl) (by kernel_rfl) (by kernel_rfl) (yi rfl fun x hx => gives_move (.inl rfl) rfl) hS3 ?_
      go_frame
      refine wpAnyH_tk 33 (v := PV (LP.canon X).1 Ka kn kc) rfl (by kernel_rfl) (by kernel_rfl) (by kernel_rfl) (yi rfl fun x hx => gives_loadRow rfl rfl (BK.out.below hx LK) Try.underlying24 (by kernel_rfl) (by kernel_rfl)) hS3 ?_
      go_frame
      refine wpAnyH_tk 34 (v := PV (LP.canon X).1 Xa xn xc) rfl (by kernel_rfl) (by kernel_rfl) (by kernel_rfl) (yi rfl fun x hx => gives_loadRow rfl rfl (BX.out.below hx LX) Try.underlying24 (by kernel_rfl) (by kernel_rfl)) hS3 ?_
      go_frame
      refine wpAnyH_1g 35 rfl (by kernel_rfl) rfl ?_
      refine wp_call [PV (LP.canon X).1 Ka kn kc, PV (LP.canon X).1 Xa xn xc] rfl rfl eSameK rfl ((same_e (LP.canon X).1 (LP.canon X).2 _ _ _ _ _ _ _ (HK.out.below hS3) (HX.out.below hS3)).mono ?_)
      rintro e y4 ⟨rfl, hb4⟩
      have hS4 : Below z7.heap.size z7 y4 := hS3.trans (hb4.mono hS3.size)
      refine ⟨_, rfl, hS4, ?_⟩
      go_frame
      refine wpAnyH_tk 36 (v := .bool true) rfl (by kernel_rfl) (by kernel_rfl) (by kernel_rfl) (yi rfl fun x hx => gives_pick rfl rfl rfl) hS4 ?_
      go_frame
      refine wpAnyH_tk 37 (v := .bool true) rfl (by kernel_rfl) (by kernel_rfl) (by kernel_rfl) (yi rfl fun x hx => gives_move (.inl rfl) rfl) hS4 ?_
      go_frame
      refine wpAnyH_tk 38 (v := PV 0 Na nn nc) rfl (by kernel_rfl) (by kernel_rfl) (by kernel_rfl) (yi rfl fun x hx => gives_loadRow rfl rfl (BN.out.below hx LN) Try.underlying24 (by kernel_rfl) (by kernel_rfl)) hS4 ?_
      go_frame
      refine wpAnyH_tk 39 (v := PV 0 Oa on oc) rfl (by kernel_rfl) (by kernel_rfl) (by kernel_rfl) (yi rfl fun x hx => gives_loadRow rfl rfl (BO.out.below hx LO) Try.underlying24 (by kernel_rfl) (by kernel_rfl)) hS4 ?_
      go_frame
      refine wpAnyH_1g 40 rfl (by kernel_rfl) rfl ?_
      refine wp_call [PV 0 Na nn nc, PV 0 Oa on oc] rfl rfl eSameK rfl ((same_e 0 (LP.normC (LP.canon X).2) _ _ _ _ _ _ _ (HN.out.below hS4) (HO.out.below hS4)).mono ?_)
      rintro e y5 ⟨rfl, hb5⟩
      have hS5 : Below z7.heap.size z7 y5 := hS4.trans (hb5.mono hS4.size)
      refine ⟨_, rfl, hS5, ?_⟩
      go_frame
      refine wpAnyH_tk 41 (v := .bool true) rfl (by kernel_rfl) (by kernel_rfl) (by kernel_rfl) (yi rfl fun x hx => gives_pick rfl rfl rfl) hS5 ?_
      go_frame
      refine wpAnyH_tk 42 (v := .bool true) rfl (by kernel_rfl) (by kernel_rfl) (by kernel_rfl) (yi rfl fun x hx => gives_move (.inr rfl) rfl) hS5 ?_
      go_frame
      refine wpAnyH_done (by kernel_rfl) (noPanic_mk ?_) _
      have HE := hide (HW.out.trans (hS5.mono HW.out.size))
      go_wp2_with fail
      go_ret
      exact ⟨rfl, HE.out⟩
end Go.Proofs.Ytbajelbfgekilaa
