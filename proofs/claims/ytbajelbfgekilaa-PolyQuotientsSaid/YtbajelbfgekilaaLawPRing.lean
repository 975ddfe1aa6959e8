/- timbkeep1.PolyRing, for a package laurent that answers as it should. -/
import Derived.Test.YtbajelbfgekilaaLpG
import Derived.Test.YtbajelbfgekilaaPoM
import Derived.Test.YtbajelbfgekilaaPoK
namespace Go.Proofs.Ytbajelbfgekilaa
set_option linter.unusedVariables false
set_option linter.unusedSimpArgs false
open Go.RowKit

theorem eMulK : ∀ args w, (callFunc 33 args).run Try.prog w = .ok (.enter 33 args) w := enters (fn := Try.f33) (by kernel_rfl) (by kernel_rfl) (by kernel_rfl)
theorem eAddK : ∀ args w, (callFunc 34 args).run Try.prog w = .ok (.enter 34 args) w := enters (fn := Try.f34) (by kernel_rfl) (by kernel_rfl) (by kernel_rfl)
theorem eSameK : ∀ args w, (callFunc 32 args).run Try.prog w = .ok (.enter 32 args) w := enters (fn := Try.f32) (by kernel_rfl) (by kernel_rfl) (by kernel_rfl)
theorem eMultK : ∀ args w, (callFunc 31 args).run Try.prog w = .ok (.enter 31 args) w := enters (fn := Try.f31) (by kernel_rfl) (by kernel_rfl) (by kernel_rfl)
/-- The product of two polynomials, as the laws reckon it. -/
theorem mul_c (F : PolyC) {x y z : LP} (hx : LP.Rt x) (hy : LP.Rt y) (hz : LP.Rt z) (e : x * y = z) (w : World) (A : Option Addr) (n c : Nat) (B : Option Addr) (m d : Nat) (ha : SL w A n c (LP.canon x).2) (hb : SL w B m d (LP.canon y).2) :
    Calls Try.prog 33 #[PV (LP.canon x).1 A n c, PV (LP.canon y).1 B m d] w (GivesP w (LP.canon z).1 (LP.canon z).2) := by
  subst e
  have h := mul_k F (LP.canon x).1 A n c (LP.canon x).2 (LP.canon y).1 B m d (LP.canon y).2 w ha hb hx.wf hy.wf
  rw [LP.mulR_canon hx hy hz] at h
  exact h
theorem add_c (F : PolyC) {x y z : LP} (hx : LP.Rt x) (hy : LP.Rt y) (hz : LP.Rt z) (e : x + y = z) (w : World) (A : Option Addr) (n c : Nat) (B : Option Addr) (m d : Nat) (ha : SL w A n c (LP.canon x).2) (hb : SL w B m d (LP.canon y).2) :
    Calls Try.prog 34 #[PV (LP.canon x).1 A n c, PV (LP.canon y).1 B m d] w (GivesP w (LP.canon z).1 (LP.canon z).2) := by
  subst e
  have h := add_k F (LP.canon x).1 A n c (LP.canon x).2 (LP.canon y).1 B m d (LP.canon y).2 w ha hb hx.wf hy.wf
  rw [LP.addR_canon hx hy hz] at h
  exact h
theorem same_c (z : LP) (w : World) (A : Option Addr) (n c : Nat) (B : Option Addr) (m d : Nat) (ha : SL w A n c (LP.canon z).2) (hb : SL w B m d (LP.canon z).2) :
    Calls Try.prog 32 #[PV (LP.canon z).1 A n c, PV (LP.canon z).1 B m d] w fun e w' => e = .returned (.bool true) ∧ Below w.heap.size w w' := by
  have h := same_k (LP.canon z).1 A n c (LP.canon z).2 (LP.canon z).1 B m d (LP.canon z).2 w ha hb
  rw [show (decide ((LP.canon z).1 = (LP.canon z).1) && eqB (LP.canon z).2 (LP.canon z).2) = true by rw [eqB_true rfl]; simp] at h
  exact h

theorem gives_eqlE {P : Program} {o : Oper} {a : Act} {w : World} {x y : Operand} {ty : TypeId} {m k : Int} {b : Bool} (ho : o.op = .binOp .eql 25 x y ty) (hx : a.eval x = .int .i64 m) (hy : a.eval y = .int .i64 k) (hz : (m == k) = b) : Gives P o a w (.bool b) := by
  subst hz
  unfold Gives execOp
  rw [ho]
  simp [hx, hy, eqGuard, binOp, Op.intCmp, Sem.run_bind, Result.andThen]
/-- What the walk needs to know of the polynomials of this law. -/
structure RingF (F : Prop) (X Y Z D XY XYZ YZ S YpZ XZ XpY : LP) : Prop where
  rX : LP.Rt X
  rY : LP.Rt Y
  rZ : LP.Rt Z
  rD : LP.Rt D
  rXY : LP.Rt XY
  rXYZ : LP.Rt XYZ
  rYZ : LP.Rt YZ
  rS : LP.Rt S
  rYpZ : LP.Rt YpZ
  rXZ : LP.Rt XZ
  rXpY : LP.Rt XpY
  e1 : X * Y = XY
  e2 : Y * X = XY
  e3 : XY * Z = XYZ
  e4 : Y * Z = YZ
  e5 : X * YZ = XYZ
  e6 : Y + Z = YpZ
  e7 : X * YpZ = S
  e8 : X * Z = XZ
  e9 : XY + XZ = S
  e10 : D + Y = X
  e11 : X + Y = XpY
  e12 : Y + X = XpY
  e13 : X + -Y = D
theorem ringF (i0 j0 k0 : Int) (xs ys zs : List Int) : ∃ XY XYZ YZ S YpZ XZ XpY D, RingF True (mkP i0 xs) (mkP j0 ys) (mkP k0 zs) D XY XYZ YZ S YpZ XZ XpY := by
  have sX := mkP_sm i0 xs
  have sY := mkP_sm j0 ys
  have sZ := mkP_sm k0 zs
  have sXY := mkP_mul i0 xs sY
  have sYX := mkP_mul j0 ys sX
  have sYZ := mkP_mul j0 ys sZ
  have sXZ := mkP_mul i0 xs sZ
  have sXYZ := mkP_mul i0 xs sYZ
  have sYpZ := sY.add sZ
  have sS := mkP_mul i0 xs sYpZ
  have sD := sX.add sY.neg
  have sXpY := sX.add sY
  refine ⟨_, _, _, _, _, _, _, _, ⟨sX.pfl (by omega) (by omega) (by omega) (by omega), sY.pfl (by omega) (by omega) (by omega) (by omega), sZ.pfl (by omega) (by omega) (by omega) (by omega), sD.pfl (by omega) (by omega) (by omega) (by omega), sXY.pfl (by omega) (by omega) (by omega) (by omega), sXYZ.pfl (by omega) (by omega) (by omega) (by omega), sYZ.pfl (by omega) (by omega) (by omega) (by omega), sS.pfl (by omega) (by omega) (by omega) (by omega), sYpZ.pfl (by omega) (by omega) (by omega) (by omega), sXZ.pfl (by omega) (by omega) (by omega) (by omega), sXpY.pfl (by omega) (by omega) (by omega) (by omega), rfl, CR.mul_comm _ _, CR.mul_assoc _ _ _, rfl, rfl, rfl, rfl, rfl, (CR.mul_add _ _ _).symm, ?_, rfl, CR.add_comm _ _, rfl⟩⟩
  rw [CR.add_assoc, CR.neg_add, CR.add_zero]

set_option maxRecDepth 100000 in
set_option maxHeartbeats 8000000 in
theorem polyRing_any (F : PolyC) (A : Option Addr) (n c : Nat) (B : Option Addr) (m d : Nat) (C : Option Addr) (p q : Nat) (i0 j0 k0 : Int) (xs ys zs : List Int) (w : World) (ha : SL w A n c xs) (hb : SL w B m d ys) (hc : SL w C p q zs) :
    Calls Try.prog 6 #[.int .i64 i0, .int .i64 j0, .int .i64 k0, .slice A n c, .slice B m d, .slice C p q] w fun e w' => e = .returned (.bool true) ∧ Below w.heap.size w w' := by
  obtain ⟨XY, XYZ, YZ, S, YpZ, XZ, XpY, D, R⟩ := ringF i0 j0 k0 xs ys zs
  have HF := hide F
  have HMX : Hid (∀ (w : World) (A : Option Addr) (n c : Nat), SL w A n c xs → Calls Try.prog 30 #[.int .i64 i0, .slice A n c] w (GivesP w (LP.canon (mkP i0 xs)).1 (LP.canon (mkP i0 xs)).2)) := hide (fun w A n c h => mpoly_any A n c xs i0 w h)
  have HMY : Hid (∀ (w : World) (A : Option Addr) (n c : Nat), SL w A n c ys → Calls Try.prog 30 #[.int .i64 j0, .slice A n c] w (GivesP w (LP.canon (mkP j0 ys)).1 (LP.canon (mkP j0 ys)).2)) := hide (fun w A n c h => mpoly_any A n c ys j0 w h)
  have HMZ : Hid (∀ (w : World) (A : Option Addr) (n c : Nat), SL w A n c zs → Calls Try.prog 30 #[.int .i64 k0, .slice A n c] w (GivesP w (LP.canon (mkP k0 zs)).1 (LP.canon (mkP k0 zs)).2)) := hide (fun w A n c h => mpoly_any A n c zs k0 w h)
  generalize mkP i0 xs = X at *
  generalize mkP j0 ys = Y at *
  generalize mkP k0 zs = Z at *
  have HR := hide R
  have HA := hide ha
  have HB := hide hb
  have HC := hide hc
  clear F ha hb hc R
  go_enter Try.func6, Try.ntmps6
  go_wp2_with fail
  refine (HMX.out _ A n c HA.out).mono ?_
  rintro e w1 ⟨Xa, xn, xc, rfl, hs, _, hb⟩
  have HX := hide hs
  have HW := hide hb
  clear hs hb HMX HA
  go_wp2_with fail
  refine (HMY.out _ B m d (HB.out.below HW.out)).mono ?_
  rintro e w2 ⟨Ya, yn, yc, rfl, hs, _, hb⟩
  have HY := hide hs
  replace HX := hide (HX.out.below hb)
  replace HW := hide (HW.out.trans (hb.mono HW.out.size))
  clear hs hb HMY HB
  go_wp2_with fail
  refine (HMZ.out _ C p q (HC.out.below HW.out)).mono ?_
  rintro e w3 ⟨Za, zn, zc, rfl, hs, _, hb⟩
  have HZ := hide hs
  replace HX := hide (HX.out.below hb)
  replace HY := hide (HY.out.below hb)
  replace HW := hide (HW.out.trans (hb.mono HW.out.size))
  clear hs hb HMZ HC
  go_wp2_with fail
  have hb4 : Below w3.heap.size w3 (((w3.alloc (.cells #[.int .i64 (LP.canon X).1, .slice Xa xn xc] 24)).alloc (.cells #[.int .i64 (LP.canon Y).1, .slice Ya yn yc] 24)).alloc (.cells #[.int .i64 (LP.canon Z).1, .slice Za zn zc] 24)) := (((Below.refl _ _).alloc (Nat.le_refl _) _).alloc (by simp) _).alloc (by simp; omega) _
  have hbx := ((Blk.new w3 24 #[.int .i64 (LP.canon X).1, .slice Xa xn xc]).alloc (.cells #[.int .i64 (LP.canon Y).1, .slice Ya yn yc] 24)).alloc (.cells #[.int .i64 (LP.canon Z).1, .slice Za zn zc] 24)
  have hby := (Blk.new (w3.alloc (.cells #[.int .i64 (LP.canon X).1, .slice Xa xn xc] 24)) 24 #[.int .i64 (LP.canon Y).1, .slice Ya yn yc]).alloc (.cells #[.int .i64 (LP.canon Z).1, .slice Za zn zc] 24)
  have hbz := Blk.new ((w3.alloc (.cells #[.int .i64 (LP.canon X).1, .slice Xa xn xc] 24)).alloc (.cells #[.int .i64 (LP.canon Y).1, .slice Ya yn yc] 24)) 24 #[.int .i64 (LP.canon Z).1, .slice Za zn zc]
  simp only [World.size_alloc] at hby hbz
  have BX := hide hbx
  have BY := hide hby
  have BZ := hide hbz
  replace HX := hide (HX.out.below hb4)
  replace HY := hide (HY.out.below hb4)
  replace HZ := hide (HZ.out.below hb4)
  replace HW := hide (HW.out.trans (hb4.mono HW.out.size))
  have hbd1 := hbz.lt
  obtain ⟨g, hg⟩ : ∃ g, w3.heap.size = g := ⟨_, rfl⟩
  rw [hg] at BX BY BZ hbd1 ⊢
  obtain ⟨w4, hw4⟩ : ∃ w4, (((w3.alloc (.cells #[.int .i64 (LP.canon X).1, .slice Xa xn xc] 24)).alloc (.cells #[.int .i64 (LP.canon Y).1, .slice Ya yn yc] 24)).alloc (.cells #[.int .i64 (LP.canon Z).1, .slice Za zn zc] 24)) = w4 := ⟨_, rfl⟩
  rw [hw4] at BX BY BZ HX HY HZ HW hbd1 ⊢
  clear hb4 hbx hby hbz hg hw4
  have hsub := HF.out.sub (LP.canon X).1 Xa xn xc (LP.canon X).2 (LP.canon Y).1 Ya yn yc (LP.canon Y).2 w4 HX.out HY.out HR.out.rX.wf HR.out.rY.wf
  rw [LP.subR_canon HR.out.rX HR.out.rY (by rw [HR.out.e13]; exact HR.out.rD), HR.out.e13] at hsub
  refine hsub.mono ?_
  rintro e w5 ⟨Da, dn, dc, rfl, hs, _, hb⟩
  have HD := hide (hs.below ((Below.refl _ _).alloc (Nat.le_refl _) (.cells #[.int .i64 (LP.canon D).1, .slice Da dn dc] 24)))
  have hb6 : Below w4.heap.size w4 (w5.alloc (.cells #[.int .i64 (LP.canon D).1, .slice Da dn dc] 24)) := hb.alloc hb.size _
  have BD := hide (Blk.new w5 24 #[.int .i64 (LP.canon D).1, .slice Da dn dc])
  replace BX := hide (BX.out.below hb6 (by omega))
  replace BY := hide (BY.out.below hb6 (by omega))
  replace BZ := hide (BZ.out.below hb6 (by omega))
  replace HX := hide (HX.out.below hb6)
  replace HY := hide (HY.out.below hb6)
  replace HZ := hide (HZ.out.below hb6)
  replace HW := hide (HW.out.trans (hb6.mono HW.out.size))
  clear hs hb hb6 hsub hbd1
  go_upto_region 3 with fail
  obtain ⟨gd, hgd⟩ : ∃ gd, w5.heap.size = gd := ⟨_, rfl⟩
  rw [hgd] at BD ⊢
  obtain ⟨wr, hwr⟩ : ∃ wr, w5.alloc (.cells #[.int .i64 (LP.canon D).1, .slice Da dn dc] 24) = wr := ⟨_, rfl⟩
  rw [hwr] at BD BX BY BZ HX HY HZ HD HW ⊢
  clear hgd hwr
  have LX := hide BX.out.lt
  have LY := hide BY.out.lt
  have LZ := hide BZ.out.lt
  have LD := hide BD.out.lt
  refine wp_region_noPanic ?_
  refine wp_region_held_drew (S := fun x => Below wr.heap.size wr x) (by kernel_rfl) (Below.refl _ _).drew (fun hS0 => ?_)
  refine wpAnyH_1g 0 rfl (by kernel_rfl) rfl ?_
  refine wp_call [] rfl rfl eMultK rfl ((multiplied_k HF.out _).mono ?_)
  rintro e v1 ⟨rfl, hb1⟩
  have hS1 : Below wr.heap.size wr v1 := hS0.trans (hb1.mono hS0.size)
  refine ⟨_, rfl, hS1, ?_⟩
  go_frame
  refine wpAnyH_tk 1 (v := .bool true) rfl (by kernel_rfl) (by kernel_rfl) (by kernel_rfl) (yi rfl fun x hx => gives_move (.inl rfl) rfl) hS1 ?_
  go_frame
  refine wpAnyH_tk 2 (v := .int .i64 0) rfl (by kernel_rfl) (by kernel_rfl) (by kernel_rfl) (yi rfl fun x hx => gives_move (.inl rfl) rfl) hS1 ?_
  go_frame
  refine wpAnyH_tk 3 (v := .bool true) rfl (by kernel_rfl) (by kernel_rfl) (by kernel_rfl) (yi rfl fun x hx => gives_eqlE rfl rfl rfl rfl) hS1 ?_
  go_frame
  refine wpAnyH_tk 4 (v := .bool true) rfl (by kernel_rfl) (by kernel_rfl) (by kernel_rfl) (yi rfl fun x hx => gives_pick rfl rfl rfl) hS1 ?_
  go_frame
  refine wpAnyH_tk 5 (v := .bool true) rfl (by kernel_rfl) (by kernel_rfl) (by kernel_rfl) (yi rfl fun x hx => gives_move (.inl rfl) rfl) hS1 ?_
  go_frame
  refine wpAnyH_tk 6 (v := PV (LP.canon X).1 Xa xn xc) rfl (by kernel_rfl) (by kernel_rfl) (by kernel_rfl) (yi rfl fun x hx => gives_loadRow rfl rfl (BX.out.below hx LX.out) Try.underlying24 (by kernel_rfl) (by kernel_rfl)) hS1 ?_
  go_frame
  refine wpAnyH_tk 7 (v := PV (LP.canon Y).1 Ya yn yc) rfl (by kernel_rfl) (by kernel_rfl) (by kernel_rfl) (yi rfl fun x hx => gives_loadRow rfl rfl (BY.out.below hx LY.out) Try.underlying24 (by kernel_rfl) (by kernel_rfl)) hS1 ?_
  go_frame
  refine wpAnyH_tk 9 (v := PV (LP.canon Y).1 Ya yn yc) rfl (by kernel_rfl) (by kernel_rfl) (by kernel_rfl) (yi rfl fun x hx => gives_loadRow rfl rfl (BY.out.below hx LY.out) Try.underlying24 (by kernel_rfl) (by kernel_rfl)) hS1 ?_
  go_frame
  refine wpAnyH_tk 10 (v := PV (LP.canon X).1 Xa xn xc) rfl (by kernel_rfl) (by kernel_rfl) (by kernel_rfl) (yi rfl fun x hx => gives_loadRow rfl rfl (BX.out.below hx LX.out) Try.underlying24 (by kernel_rfl) (by kernel_rfl)) hS1 ?_
  go_frame
  refine wpAnyH_1g 8 rfl (by kernel_rfl) rfl ?_
  refine wp_call [PV (LP.canon X).1 Xa xn xc, PV (LP.canon Y).1 Ya yn yc] rfl rfl eMulK rfl ((mul_c HF.out HR.out.rX HR.out.rY HR.out.rXY HR.out.e1 _ _ _ _ _ _ _ (HX.out.below hS1) (HY.out.below hS1)).mono ?_)
  rintro e v2 ⟨q8, qn8, qc8, rfl, hs8, _, hb2⟩
  have hS2 : Below wr.heap.size wr v2 := hS1.trans (hb2.mono hS1.size)
  have Hq8 := hide hs8
  refine ⟨_, rfl, hS2, ?_⟩
  go_frame
  refine wpAnyH_1g 11 rfl (by kernel_rfl) rfl ?_
  refine wp_call [PV (LP.canon Y).1 Ya yn yc, PV (LP.canon X).1 Xa xn xc] rfl rfl eMulK rfl ((mul_c HF.out HR.out.rY HR.out.rX HR.out.rXY HR.out.e2 _ _ _ _ _ _ _ (HY.out.below hS2) (HX.out.below hS2)).mono ?_)
  rintro e v3 ⟨q11, qn11, qc11, rfl, hs11, _, hb3⟩
  have hS3 : Below wr.heap.size wr v3 := hS2.trans (hb3.mono hS2.size)
  replace Hq8 := hide (Hq8.out.below hb3)
  have Hq11 := hide hs11
  refine ⟨_, rfl, hS3, ?_⟩
  go_frame
  refine wpAnyH_1g 12 rfl (by kernel_rfl) rfl ?_
  refine wp_call [PV (LP.canon XY).1 q8 qn8 qc8, PV (LP.canon XY).1 q11 qn11 qc11] rfl rfl eSameK rfl ((same_c XY _ _ _ _ _ _ _ (Hq8.out) (Hq11.out)).mono ?_)
  rintro e v4 ⟨rfl, hb4⟩
  have hS4 : Below wr.heap.size wr v4 := hS3.trans (hb4.mono hS3.size)
  refine ⟨_, rfl, hS4, ?_⟩
  go_frame
  refine wpAnyH_tk 13 (v := .bool true) rfl (by kernel_rfl) (by kernel_rfl) (by kernel_rfl) (yi rfl fun x hx => gives_pick rfl rfl rfl) hS4 ?_
  go_frame
  refine wpAnyH_tk 14 (v := .bool true) rfl (by kernel_rfl) (by kernel_rfl) (by kernel_rfl) (yi rfl fun x hx => gives_move (.inl rfl) rfl) hS4 ?_
  go_frame
  refine wpAnyH_tk 15 (v := PV (LP.canon X).1 Xa xn xc) rfl (by kernel_rfl) (by kernel_rfl) (by kernel_rfl) (yi rfl fun x hx => gives_loadRow rfl rfl (BX.out.below hx LX.out) Try.underlying24 (by kernel_rfl) (by kernel_rfl)) hS4 ?_
  go_frame
  refine wpAnyH_tk 16 (v := PV (LP.canon Y).1 Ya yn yc) rfl (by kernel_rfl) (by kernel_rfl) (by kernel_rfl) (yi rfl fun x hx => gives_loadRow rfl rfl (BY.out.below hx LY.out) Try.underlying24 (by kernel_rfl) (by kernel_rfl)) hS4 ?_
  go_frame
  refine wpAnyH_tk 18 (v := PV (LP.canon Z).1 Za zn zc) rfl (by kernel_rfl) (by kernel_rfl) (by kernel_rfl) (yi rfl fun x hx => gives_loadRow rfl rfl (BZ.out.below hx LZ.out) Try.underlying24 (by kernel_rfl) (by kernel_rfl)) hS4 ?_
  go_frame
  refine wpAnyH_tk 20 (v := PV (LP.canon X).1 Xa xn xc) rfl (by kernel_rfl) (by kernel_rfl) (by kernel_rfl) (yi rfl fun x hx => gives_loadRow rfl rfl (BX.out.below hx LX.out) Try.underlying24 (by kernel_rfl) (by kernel_rfl)) hS4 ?_
  go_frame
  refine wpAnyH_tk 21 (v := PV (LP.canon Y).1 Ya yn yc) rfl (by kernel_rfl) (by kernel_rfl) (by kernel_rfl) (yi rfl fun x hx => gives_loadRow rfl rfl (BY.out.below hx LY.out) Try.underlying24 (by kernel_rfl) (by kernel_rfl)) hS4 ?_
  go_frame
  refine wpAnyH_tk 22 (v := PV (LP.canon Z).1 Za zn zc) rfl (by kernel_rfl) (by kernel_rfl) (by kernel_rfl) (yi rfl fun x hx => gives_loadRow rfl rfl (BZ.out.below hx LZ.out) Try.underlying24 (by kernel_rfl) (by kernel_rfl)) hS4 ?_
  go_frame
  refine wpAnyH_1g 17 rfl (by kernel_rfl) rfl ?_
  refine wp_call [PV (LP.canon X).1 Xa xn xc, PV (LP.canon Y).1 Ya yn yc] rfl rfl eMulK rfl ((mul_c HF.out HR.out.rX HR.out.rY HR.out.rXY HR.out.e1 _ _ _ _ _ _ _ (HX.out.below hS4) (HY.out.below hS4)).mono ?_)
  rintro e v5 ⟨q17, qn17, qc17, rfl, hs17, _, hb5⟩
  have hS5 : Below wr.heap.size wr v5 := hS4.trans (hb5.mono hS4.size)
  have Hq17 := hide hs17
  refine ⟨_, rfl, hS5, ?_⟩
  go_frame
  refine wpAnyH_1g 19 rfl (by kernel_rfl) rfl ?_
  refine wp_call [PV (LP.canon XY).1 q17 qn17 qc17, PV (LP.canon Z).1 Za zn zc] rfl rfl eMulK rfl ((mul_c HF.out HR.out.rXY HR.out.rZ HR.out.rXYZ HR.out.e3 _ _ _ _ _ _ _ (Hq17.out) (HZ.out.below hS5)).mono ?_)
  rintro e v6 ⟨q19, qn19, qc19, rfl, hs19, _, hb6⟩
  have hS6 : Below wr.heap.size wr v6 := hS5.trans (hb6.mono hS5.size)
  have Hq19 := hide hs19
  refine ⟨_, rfl, hS6, ?_⟩
  go_frame
  refine wpAnyH_1g 23 rfl (by kernel_rfl) rfl ?_
  refine wp_call [PV (LP.canon Y).1 Ya yn yc, PV (LP.canon Z).1 Za zn zc] rfl rfl eMulK rfl ((mul_c HF.out HR.out.rY HR.out.rZ HR.out.rYZ HR.out.e4 _ _ _ _ _ _ _ (HY.out.below hS6) (HZ.out.below hS6)).mono ?_)
  rintro e v7 ⟨q23, qn23, qc23, rfl, hs23, _, hb7⟩
  have hS7 : Below wr.heap.size wr v7 := hS6.trans (hb7.mono hS6.size)
  replace Hq19 := hide (Hq19.out.below hb7)
  have Hq23 := hide hs23
  refine ⟨_, rfl, hS7, ?_⟩
  go_frame
  refine wpAnyH_1g 24 rfl (by kernel_rfl) rfl ?_
  refine wp_call [PV (LP.canon X).1 Xa xn xc, PV (LP.canon YZ).1 q23 qn23 qc23] rfl rfl eMulK rfl ((mul_c HF.out HR.out.rX HR.out.rYZ HR.out.rXYZ HR.out.e5 _ _ _ _ _ _ _ (HX.out.below hS7) (Hq23.out)).mono ?_)
  rintro e v8 ⟨q24, qn24, qc24, rfl, hs24, _, hb8⟩
  have hS8 : Below wr.heap.size wr v8 := hS7.trans (hb8.mono hS7.size)
  replace Hq19 := hide (Hq19.out.below hb8)
  have Hq24 := hide hs24
  refine ⟨_, rfl, hS8, ?_⟩
  go_frame
  refine wpAnyH_1g 25 rfl (by kernel_rfl) rfl ?_
  refine wp_call [PV (LP.canon XYZ).1 q19 qn19 qc19, PV (LP.canon XYZ).1 q24 qn24 qc24] rfl rfl eSameK rfl ((same_c XYZ _ _ _ _ _ _ _ (Hq19.out) (Hq24.out)).mono ?_)
  rintro e v9 ⟨rfl, hb9⟩
  have hS9 : Below wr.heap.size wr v9 := hS8.trans (hb9.mono hS8.size)
  refine ⟨_, rfl, hS9, ?_⟩
  go_frame
  refine wpAnyH_tk 26 (v := .bool true) rfl (by kernel_rfl) (by kernel_rfl) (by kernel_rfl) (yi rfl fun x hx => gives_pick rfl rfl rfl) hS9 ?_
  go_frame
  refine wpAnyH_tk 27 (v := .bool true) rfl (by kernel_rfl) (by kernel_rfl) (by kernel_rfl) (yi rfl fun x hx => gives_move (.inl rfl) rfl) hS9 ?_
  go_frame
  refine wpAnyH_tk 28 (v := PV (LP.canon X).1 Xa xn xc) rfl (by kernel_rfl) (by kernel_rfl) (by kernel_rfl) (yi rfl fun x hx => gives_loadRow rfl rfl (BX.out.below hx LX.out) Try.underlying24 (by kernel_rfl) (by kernel_rfl)) hS9 ?_
  go_frame
  refine wpAnyH_tk 29 (v := PV (LP.canon Y).1 Ya yn yc) rfl (by kernel_rfl) (by kernel_rfl) (by kernel_rfl) (yi rfl fun x hx => gives_loadRow rfl rfl (BY.out.below hx LY.out) Try.underlying24 (by kernel_rfl) (by kernel_rfl)) hS9 ?_
  go_frame
  refine wpAnyH_tk 30 (v := PV (LP.canon Z).1 Za zn zc) rfl (by kernel_rfl) (by kernel_rfl) (by kernel_rfl) (yi rfl fun x hx => gives_loadRow rfl rfl (BZ.out.below hx LZ.out) Try.underlying24 (by kernel_rfl) (by kernel_rfl)) hS9 ?_
  go_frame
  refine wpAnyH_tk 33 (v := PV (LP.canon X).1 Xa xn xc) rfl (by kernel_rfl) (by kernel_rfl) (by kernel_rfl) (yi rfl fun x hx => gives_loadRow rfl rfl (BX.out.below hx LX.out) Try.underlying24 (by kernel_rfl) (by kernel_rfl)) hS9 ?_
  go_frame
  refine wpAnyH_tk 34 (v := PV (LP.canon Y).1 Ya yn yc) rfl (by kernel_rfl) (by kernel_rfl) (by kernel_rfl) (yi rfl fun x hx => gives_loadRow rfl rfl (BY.out.below hx LY.out) Try.underlying24 (by kernel_rfl) (by kernel_rfl)) hS9 ?_
  go_frame
  refine wpAnyH_tk 36 (v := PV (LP.canon X).1 Xa xn xc) rfl (by kernel_rfl) (by kernel_rfl) (by kernel_rfl) (yi rfl fun x hx => gives_loadRow rfl rfl (BX.out.below hx LX.out) Try.underlying24 (by kernel_rfl) (by kernel_rfl)) hS9 ?_
  go_frame
  refine wpAnyH_tk 37 (v := PV (LP.canon Z).1 Za zn zc) rfl (by kernel_rfl) (by kernel_rfl) (by kernel_rfl) (yi rfl fun x hx => gives_loadRow rfl rfl (BZ.out.below hx LZ.out) Try.underlying24 (by kernel_rfl) (by kernel_rfl)) hS9 ?_
  go_frame
  refine wpAnyH_1g 31 rfl (by kernel_rfl) rfl ?_
  refine wp_call [PV (LP.canon Y).1 Ya yn yc, PV (LP.canon Z).1 Za zn zc] rfl rfl eAddK rfl ((add_c HF.out HR.out.rY HR.out.rZ HR.out.rYpZ HR.out.e6 _ _ _ _ _ _ _ (HY.out.below hS9) (HZ.out.below hS9)).mono ?_)
  rintro e v10 ⟨q31, qn31, qc31, rfl, hs31, _, hb10⟩
  have hS10 : Below wr.heap.size wr v10 := hS9.trans (hb10.mono hS9.size)
  have Hq31 := hide hs31
  refine ⟨_, rfl, hS10, ?_⟩
  go_frame
  refine wpAnyH_1g 32 rfl (by kernel_rfl) rfl ?_
  refine wp_call [PV (LP.canon X).1 Xa xn xc, PV (LP.canon YpZ).1 q31 qn31 qc31] rfl rfl eMulK rfl ((mul_c HF.out HR.out.rX HR.out.rYpZ HR.out.rS HR.out.e7 _ _ _ _ _ _ _ (HX.out.below hS10) (Hq31.out)).mono ?_)
  rintro e v11 ⟨q32, qn32, qc32, rfl, hs32, _, hb11⟩
  have hS11 : Below wr.heap.size wr v11 := hS10.trans (hb11.mono hS10.size)
  have Hq32 := hide hs32
  refine ⟨_, rfl, hS11, ?_⟩
  go_frame
  refine wpAnyH_1g 35 rfl (by kernel_rfl) rfl ?_
  refine wp_call [PV (LP.canon X).1 Xa xn xc, PV (LP.canon Y).1 Ya yn yc] rfl rfl eMulK rfl ((mul_c HF.out HR.out.rX HR.out.rY HR.out.rXY HR.out.e1 _ _ _ _ _ _ _ (HX.out.below hS11) (HY.out.below hS11)).mono ?_)
  rintro e v12 ⟨q35, qn35, qc35, rfl, hs35, _, hb12⟩
  have hS12 : Below wr.heap.size wr v12 := hS11.trans (hb12.mono hS11.size)
  replace Hq32 := hide (Hq32.out.below hb12)
  have Hq35 := hide hs35
  refine ⟨_, rfl, hS12, ?_⟩
  go_frame
  refine wpAnyH_1g 38 rfl (by kernel_rfl) rfl ?_
  refine wp_call [PV (LP.canon X).1 Xa xn xc, PV (LP.canon Z).1 Za zn zc] rfl rfl eMulK rfl ((mul_c HF.out HR.out.rX HR.out.rZ HR.out.rXZ HR.out.e8 _ _ _ _ _ _ _ (HX.out.below hS12) (HZ.out.below hS12)).mono ?_)
  rintro e v13 ⟨q38, qn38, qc38, rfl, hs38, _, hb13⟩
  have hS13 : Below wr.heap.size wr v13 := hS12.trans (hb13.mono hS12.size)
  replace Hq32 := hide (Hq32.out.below hb13)
  replace Hq35 := hide (Hq35.out.below hb13)
  have Hq38 := hide hs38
  refine ⟨_, rfl, hS13, ?_⟩
  go_frame
  refine wpAnyH_1g 39 rfl (by kernel_rfl) rfl ?_
  refine wp_call [PV (LP.canon XY).1 q35 qn35 qc35, PV (LP.canon XZ).1 q38 qn38 qc38] rfl rfl eAddK rfl ((add_c HF.out HR.out.rXY HR.out.rXZ HR.out.rS HR.out.e9 _ _ _ _ _ _ _ (Hq35.out) (Hq38.out)).mono ?_)
  rintro e v14 ⟨q39, qn39, qc39, rfl, hs39, _, hb14⟩
  have hS14 : Below wr.heap.size wr v14 := hS13.trans (hb14.mono hS13.size)
  replace Hq32 := hide (Hq32.out.below hb14)
  have Hq39 := hide hs39
  refine ⟨_, rfl, hS14, ?_⟩
  go_frame
  refine wpAnyH_1g 40 rfl (by kernel_rfl) rfl ?_
  refine wp_call [PV (LP.canon S).1 q32 qn32 qc32, PV (LP.canon S).1 q39 qn39 qc39] rfl rfl eSameK rfl ((same_c S _ _ _ _ _ _ _ (Hq32.out) (Hq39.out)).mono ?_)
  rintro e v15 ⟨rfl, hb15⟩
  have hS15 : Below wr.heap.size wr v15 := hS14.trans (hb15.mono hS14.size)
  refine ⟨_, rfl, hS15, ?_⟩
  go_frame
  refine wpAnyH_tk 41 (v := .bool true) rfl (by kernel_rfl) (by kernel_rfl) (by kernel_rfl) (yi rfl fun x hx => gives_pick rfl rfl rfl) hS15 ?_
  go_frame
  refine wpAnyH_tk 42 (v := .bool true) rfl (by kernel_rfl) (by kernel_rfl) (by kernel_rfl) (yi rfl fun x hx => gives_move (.inl rfl) rfl) hS15 ?_
  go_frame
  refine wpAnyH_tk 43 (v := PV (LP.canon D).1 Da dn dc) rfl (by kernel_rfl) (by kernel_rfl) (by kernel_rfl) (yi rfl fun x hx => gives_loadRow rfl rfl (BD.out.below hx LD.out) Try.underlying24 (by kernel_rfl) (by kernel_rfl)) hS15 ?_
  go_frame
  refine wpAnyH_tk 44 (v := PV (LP.canon Y).1 Ya yn yc) rfl (by kernel_rfl) (by kernel_rfl) (by kernel_rfl) (yi rfl fun x hx => gives_loadRow rfl rfl (BY.out.below hx LY.out) Try.underlying24 (by kernel_rfl) (by kernel_rfl)) hS15 ?_
  go_frame
  refine wpAnyH_tk 46 (v := PV (LP.canon X).1 Xa xn xc) rfl (by kernel_rfl) (by kernel_rfl) (by kernel_rfl) (yi rfl fun x hx => gives_loadRow rfl rfl (BX.out.below hx LX.out) Try.underlying24 (by kernel_rfl) (by kernel_rfl)) hS15 ?_
  go_frame
  refine wpAnyH_1g 45 rfl (by kernel_rfl) rfl ?_
  refine wp_call [PV (LP.canon D).1 Da dn dc, PV (LP.canon Y).1 Ya yn yc] rfl rfl eAddK rfl ((add_c HF.out HR.out.rD HR.out.rY HR.out.rX HR.out.e10 _ _ _ _ _ _ _ (HD.out.below hS15) (HY.out.below hS15)).mono ?_)
  rintro e v16 ⟨q45, qn45, qc45, rfl, hs45, _, hb16⟩
  have hS16 : Below wr.heap.size wr v16 := hS15.trans (hb16.mono hS15.size)
  have Hq45 := hide hs45
  refine ⟨_, rfl, hS16, ?_⟩
  go_frame
  refine wpAnyH_1g 47 rfl (by kernel_rfl) rfl ?_
  refine wp_call [PV (LP.canon X).1 q45 qn45 qc45, PV (LP.canon X).1 Xa xn xc] rfl rfl eSameK rfl ((same_c X _ _ _ _ _ _ _ (Hq45.out) (HX.out.below hS16)).mono ?_)
  rintro e v17 ⟨rfl, hb17⟩
  have hS17 : Below wr.heap.size wr v17 := hS16.trans (hb17.mono hS16.size)
  refine ⟨_, rfl, hS17, ?_⟩
  go_frame
  refine wpAnyH_tk 48 (v := .bool true) rfl (by kernel_rfl) (by kernel_rfl) (by kernel_rfl) (yi rfl fun x hx => gives_pick rfl rfl rfl) hS17 ?_
  go_frame
  refine wpAnyH_tk 49 (v := .bool true) rfl (by kernel_rfl) (by kernel_rfl) (by kernel_rfl) (yi rfl fun x hx => gives_move (.inl rfl) rfl) hS17 ?_
  go_frame
  refine wpAnyH_tk 50 (v := PV (LP.canon X).1 Xa xn xc) rfl (by kernel_rfl) (by kernel_rfl) (by kernel_rfl) (yi rfl fun x hx => gives_loadRow rfl rfl (BX.out.below hx LX.out) Try.underlying24 (by kernel_rfl) (by kernel_rfl)) hS17 ?_
  go_frame
  refine wpAnyH_tk 51 (v := PV (LP.canon Y).1 Ya yn yc) rfl (by kernel_rfl) (by kernel_rfl) (by kernel_rfl) (yi rfl fun x hx => gives_loadRow rfl rfl (BY.out.below hx LY.out) Try.underlying24 (by kernel_rfl) (by kernel_rfl)) hS17 ?_
  go_frame
  refine wpAnyH_tk 53 (v := PV (LP.canon Y).1 Ya yn yc) rfl (by kernel_rfl) (by kernel_rfl) (by kernel_rfl) (yi rfl fun x hx => gives_loadRow rfl rfl (BY.out.below hx LY.out) Try.underlying24 (by kernel_rfl) (by kernel_rfl)) hS17 ?_
  go_frame
  refine wpAnyH_tk 54 (v := PV (LP.canon X).1 Xa xn xc) rfl (by kernel_rfl) (by kernel_rfl) (by kernel_rfl) (yi rfl fun x hx => gives_loadRow rfl rfl (BX.out.below hx LX.out) Try.underlying24 (by kernel_rfl) (by kernel_rfl)) hS17 ?_
  go_frame
  refine wpAnyH_1g 52 rfl (by kernel_rfl) rfl ?_
  refine wp_call [PV (LP.canon X).1 Xa xn xc, PV (LP.canon Y).1 Ya yn yc] rfl rfl eAddK rfl ((add_c HF.out HR.out.rX HR.out.rY HR.out.rXpY HR.out.e11 _ _ _ _ _ _ _ (HX.out.below hS17) (HY.out.below hS17)).mono ?_)
  rintro e v18 ⟨q52, qn52, qc52, rfl, hs52, _, hb18⟩
  have hS18 : Below wr.heap.size wr v18 := hS17.trans (hb18.mono hS17.size)
  have Hq52 := hide hs52
  refine ⟨_, rfl, hS18, ?_⟩
  go_frame
  refine wpAnyH_1g 55 rfl (by kernel_rfl) rfl ?_
  refine wp_call [PV (LP.canon Y).1 Ya yn yc, PV (LP.canon X).1 Xa xn xc] rfl rfl eAddK rfl ((add_c HF.out HR.out.rY HR.out.rX HR.out.rXpY HR.out.e12 _ _ _ _ _ _ _ (HY.out.below hS18) (HX.out.below hS18)).mono ?_)
  rintro e v19 ⟨q55, qn55, qc55, rfl, hs55, _, hb19⟩
  have hS19 : Below wr.heap.size wr v19 := hS18.trans (hb19.mono hS18.size)
  replace Hq52 := hide (Hq52.out.below hb19)
  have Hq55 := hide hs55
  refine ⟨_, rfl, hS19, ?_⟩
  go_frame
  refine wpAnyH_1g 56 rfl (by kernel_rfl) rfl ?_
  refine wp_call [PV (LP.canon XpY).1 q52 qn52 qc52, PV (LP.canon XpY).1 q55 qn55 qc55] rfl rfl eSameK rfl ((same_c XpY _ _ _ _ _ _ _ (Hq52.out) (Hq55.out)).mono ?_)
  rintro e v20 ⟨rfl, hb20⟩
  have hS20 : Below wr.heap.size wr v20 := hS19.trans (hb20.mono hS19.size)
  refine ⟨_, rfl, hS20, ?_⟩
  go_frame
  refine wpAnyH_tk 57 (v := .bool true) rfl (by kernel_rfl) (by kernel_rfl) (by kernel_rfl) (yi rfl fun x hx => gives_pick rfl rfl rfl) hS20 ?_
  go_frame
  refine wpAnyH_tk 58 (v := .bool true) rfl (by kernel_rfl) (by kernel_rfl) (by kernel_rfl) (yi rfl fun x hx => gives_move (.inr rfl) rfl) hS20 ?_
  go_frame
  refine wpAnyH_done (by kernel_rfl) (noPanic_mk ?_) _
  have HE := hide (HW.out.trans (hS20.mono HW.out.size))
  go_wp2_with fail
  go_ret
  exact ⟨rfl, HE.out⟩
end Go.Proofs.Ytbajelbfgekilaa
