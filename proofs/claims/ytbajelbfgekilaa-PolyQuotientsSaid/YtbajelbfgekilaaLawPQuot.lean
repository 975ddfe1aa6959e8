/- timbkeep1.PolyQuotients, for a package laurent that answers as it should. -/
import Derived.Test.YtbajelbfgekilaaLawPValues
import Derived.Test.YtbajelbfgekilaaLpQ
import Derived.Test.YtbajelbfgekilaaSetRow
namespace Go.Proofs.Ytbajelbfgekilaa
set_option linter.unusedVariables false
set_option linter.unusedSimpArgs false
open Go.RowKit

theorem same_n (la : Int) (xs : List Int) (lb : Int) (ys : List Int) (w : World) (A : Option Addr) (n c : Nat) (B : Option Addr) (m d : Nat) (ha : SL w A n c xs) (hb : SL w B m d ys) (h1 : la = lb) (h2 : xs = ys) :
    Calls Try.prog 32 #[PV la A n c, PV lb B m d] w fun e w' => e = .returned (.bool true) ∧ Below w.heap.size w w' := by
  subst h1 h2
  exact same_e la xs w A n c B m d ha hb
theorem eDivL : ∀ args w, (callFunc 28 args).run Try.prog w = .ok (.enter 28 args) w := enters (fn := Try.f28) (by kernel_rfl) (by kernel_rfl) (by kernel_rfl)
/-- What the walk needs to know of the polynomials of this law. -/
structure QuoF (X Y XY : LP) : Prop where
  rX : LP.Rt X
  rY : LP.Rt Y
  rXY : LP.Rt XY
  e1 : X * Y = XY
theorem quoF (i0 j0 : Int) (xs ys : List Int) : ∃ XY, QuoF (mkP i0 xs) (mkP j0 ys) XY := by
  have sX := mkP_sm i0 xs
  have sY := mkP_sm j0 ys
  have sXY := mkP_mul i0 xs sY
  exact ⟨_, sX.pfl (by omega) (by omega) (by omega) (by omega), sY.pfl (by omega) (by omega) (by omega) (by omega), sXY.pfl (by omega) (by omega) (by omega) (by omega), rfl⟩

set_option maxRecDepth 100000 in
set_option maxHeartbeats 8000000 in
theorem polyQuotients_any (F : PolyC) (A : Option Addr) (n c : Nat) (B : Option Addr) (m d : Nat) (i0 j0 : Int) (xs ys : List Int) (w : World) (ha : SL w A n c xs) (hb : SL w B m d ys) :
    Calls Try.prog 8 #[.int .i64 i0, .int .i64 j0, .slice A n c, .slice B m d] w fun e w' => e = .returned (.bool true) ∧ Below w.heap.size w w' := by
  obtain ⟨XY, R⟩ := quoF i0 j0 xs ys
  have HF := hide F
  have HMX : Hid (∀ (w : World) (A : Option Addr) (n c : Nat), SL w A n c xs → Calls Try.prog 30 #[.int .i64 i0, .slice A n c] w (GivesP w (LP.canon (mkP i0 xs)).1 (LP.canon (mkP i0 xs)).2)) := hide (fun w A n c h => mpoly_any A n c xs i0 w h)
  have HMY : Hid (∀ (w : World) (A : Option Addr) (n c : Nat), SL w A n c ys → Calls Try.prog 30 #[.int .i64 j0, .slice A n c] w (GivesP w (LP.canon (mkP j0 ys)).1 (LP.canon (mkP j0 ys)).2)) := hide (fun w A n c h => mpoly_any A n c ys j0 w h)
  generalize mkP i0 xs = X at *
  generalize mkP j0 ys = Y at *
  have HR := hide R
  have HA := hide ha
  have HB := hide hb
  clear F ha hb R
  go_enter Try.func8, Try.ntmps8
  go_wp2_with fail
  refine (HMX.out _ A n c HA.out).mono ?_
  rintro e w1 ⟨Xa, xn, xc, rfl, hs, _, hb⟩
  have HX := hide hs
  have HW := hide hb
  clear hs hb HMX HA
  go_wp2_with fail
  refine (HMY.out _ B m d (HB.out.below HW.out)).mono ?_
  rintro e w2 ⟨Ya, yn, yc, rfl, hs, _, hb⟩
  have HY := hide hs
  replace HX := hide (HX.out.below hb)
  replace HW := hide (HW.out.trans (hb.mono HW.out.size))
  clear hs hb HMY HB
  have hb4 : Below w2.heap.size w2 ((w2.alloc (.cells #[.int .i64 (LP.canon X).1, .slice Xa xn xc] 24)).alloc (.cells #[.int .i64 (LP.canon Y).1, .slice Ya yn yc] 24)) := ((Below.refl _ _).alloc (Nat.le_refl _) _).alloc (by simp) _
  have hbx := (Blk.new w2 24 #[.int .i64 (LP.canon X).1, .slice Xa xn xc]).alloc (.cells #[.int .i64 (LP.canon Y).1, .slice Ya yn yc] 24)
  have hby := Blk.new (w2.alloc (.cells #[.int .i64 (LP.canon X).1, .slice Xa xn xc] 24)) 24 #[.int .i64 (LP.canon Y).1, .slice Ya yn yc]
  simp only [World.size_alloc] at hby
  replace HX := hide (HX.out.below hb4)
  replace HY := hide (HY.out.below hb4)
  replace HW := hide (HW.out.trans (hb4.mono HW.out.size))
  have BX := hide hbx
  have BY := hide hby
  clear hb4 hbx hby
  go_upto_region 2 with fail
  obtain ⟨g, hg⟩ : ∃ g, w2.heap.size = g := ⟨_, rfl⟩
  rw [hg] at BX BY ⊢
  obtain ⟨wr, hwr⟩ : ∃ wr, ((w2.alloc (.cells #[.int .i64 (LP.canon X).1, .slice Xa xn xc] 24)).alloc (.cells #[.int .i64 (LP.canon Y).1, .slice Ya yn yc] 24)) = wr := ⟨_, rfl⟩
  rw [hwr] at BX BY HX HY HW ⊢
  clear hg hwr
  have LX := hide BX.out.lt
  have LY := hide BY.out.lt
  obtain ⟨r, hr⟩ : ∃ r, LP.divR (LP.canon XY).1 (LP.canon XY).2 (LP.canon Y).1 (LP.canon Y).2 = r := ⟨_, rfl⟩
  have hdv : ∀ (Q : Option Addr) (qn qc : Nat) (w : World), SL w Q qn qc (LP.canon XY).2 → SL w Ya yn yc (LP.canon Y).2 → Calls Try.prog 28 #[PV (LP.canon XY).1 Q qn qc, PV (LP.canon Y).1 Ya yn yc] w (GivesPE w r) := by
    intro Q qn qc w h1 h2
    rw [← hr]
    exact HF.out.div _ _ _ _ _ _ _ _ _ _ _ h1 h2 HR.out.rXY.wf HR.out.rY.wf
  have HDV := hide hdv
  have HDR := hide hr
  clear hdv hr
  go_cut [11, 12, 20, 21, 22, 23, 24, 25, 26, 27] (fun v u _ _ _ _ _ _ _ _ wx => ∃ qb Q qn qc, v = .pointer (some ⟨qb, 0, none⟩) ∧ u = .int .i64 r.1 ∧ Blk wx qb 24 #[.int .i64 r.2.1, .slice Q qn qc] ∧ SL wx Q qn qc r.2.2 ∧ Below wr.heap.size wr wx ∧ wr.heap.size ≤ qb)
  case first =>
    refine wp_region_noPanic ?_
    refine wp_region_held_drew (S := fun x => Below wr.heap.size wr x) (by kernel_rfl) (Below.refl _ _).drew (fun hS0 => ?_)
    refine wpAnyH_tk 0 (v := PV (LP.canon X).1 Xa xn xc) rfl (by kernel_rfl) (by kernel_rfl) (by kernel_rfl) (yi rfl fun x hx => gives_loadRow rfl rfl (BX.out.below hx LX.out) Try.underlying24 (by kernel_rfl) (by kernel_rfl)) hS0 ?_
    go_frame
    refine wpAnyH_tk 1 (v := PV (LP.canon Y).1 Ya yn yc) rfl (by kernel_rfl) (by kernel_rfl) (by kernel_rfl) (yi rfl fun x hx => gives_loadRow rfl rfl (BY.out.below hx LY.out) Try.underlying24 (by kernel_rfl) (by kernel_rfl)) hS0 ?_
    go_frame
    refine wpAnyH_tk 3 (v := PV (LP.canon Y).1 Ya yn yc) rfl (by kernel_rfl) (by kernel_rfl) (by kernel_rfl) (yi rfl fun x hx => gives_loadRow rfl rfl (BY.out.below hx LY.out) Try.underlying24 (by kernel_rfl) (by kernel_rfl)) hS0 ?_
    go_frame
    refine wpAnyH_2 2 8 rfl rfl (by kernel_rfl) ?_ ?_
    · refine wp_call [PV (LP.canon X).1 Xa xn xc, PV (LP.canon Y).1 Ya yn yc] rfl rfl eMulK rfl ((mul_c HF.out HR.out.rX HR.out.rY HR.out.rXY HR.out.e1 _ _ _ _ _ _ _ (HX.out.below hS0) (HY.out.below hS0)).mono ?_)
      rintro e v1 ⟨q2, qn2, qc2, rfl, hs2, _, hb1⟩
      have hS1 : Below wr.heap.size wr v1 := hS0.trans (hb1.mono hS0.size)
      refine ⟨_, rfl, hS1, ?_⟩
      go_frame
      refine wpAnyH_2 4 8 rfl rfl (by kernel_rfl) ?_ ?_
      · refine wp_call [PV (LP.canon XY).1 q2 qn2 qc2, PV (LP.canon Y).1 Ya yn yc] rfl rfl eDivL rfl ((HDV.out _ _ _ _ hs2 (HY.out.below hS1)).mono ?_)
        rintro e v2 ⟨q4, qn4, qc4, rfl, hs4, hN4, hb2⟩
        have hS2 : Below wr.heap.size wr v2 := hS1.trans (hb2.mono hS1.size)
        refine ⟨_, rfl, hS2, ?_⟩
        go_frame
        refine wpAnyH_tk 5 (v := .tuple #[PV r.2.1 q4 qn4 qc4, .int .i64 r.1]) rfl (by kernel_rfl) (by kernel_rfl) (by kernel_rfl) (yi rfl fun x hx => gives_move (.inl rfl) rfl) hS2 ?_
        go_frame
        refine wpAnyH_tk 6 (v := PV r.2.1 q4 qn4 qc4) rfl (by kernel_rfl) (by kernel_rfl) (by kernel_rfl) (yi rfl fun x hx => gives_extract rfl rfl rfl) hS2 ?_
        go_frame
        refine wpAnyH_tk 7 (v := .int .i64 r.1) rfl (by kernel_rfl) (by kernel_rfl) (by kernel_rfl) (yi rfl fun x hx => gives_extract rfl rfl rfl) hS2 ?_
        go_frame
        refine wpAnyH_1 8 rfl (by kernel_rfl) ?_
        have hS3 : Below wr.heap.size wr (v2.alloc (.cells #[.int .i64 0, .slice none 0 0] 24)) := hS2.alloc hS2.size _
        have bk := hide (Blk.new v2 24 #[.int .i64 0, .slice none 0 0])
        have hqb : wr.heap.size ≤ v2.heap.size := hS2.size
        have hne : 0 < qn4 → ∀ ad, q4 = some ad → ad.block ≠ v2.heap.size := fun h ad e => by obtain ⟨ad2, e2, hl, _⟩ := hs4.il.mem h; rw [e] at e2; cases e2; omega
        replace hs4 := hs4.below ((Below.refl _ _).alloc (Nat.le_refl _) (.cells #[.int .i64 0, .slice none 0 0] 24))
        refine wp_alloc (z := .agg #[.int .i64 0, .slice none 0 0]) (cs := #[.int .i64 0, .slice none 0 0]) rfl (by kernel_rfl) rfl ⟨hS3, ?_⟩
        obtain ⟨qb, hq⟩ : ∃ qb, v2.heap.size = qb := ⟨_, rfl⟩
        rw [hq] at bk hqb hne ⊢
        obtain ⟨uhS3, hw⟩ : ∃ x, v2.alloc (.cells #[.int .i64 0, .slice none 0 0] 24) = x := ⟨_, rfl⟩
        rw [hw] at bk hS3 hs4 ⊢
        clear hw hq
        go_frame
        refine wpAnyH_1 9 rfl (by kernel_rfl) ?_
        have hS9 : Below wr.heap.size wr (uhS3.setRow qb #[.int .i64 r.2.1, .slice q4 qn4 qc4]) := Below.setRow_ hS3 hqb _
        refine wp_storeRow rfl rfl rfl bk.out (by kernel_rfl) rfl (by kernel_rfl) ⟨hS9, ?_⟩
        go_frame
        refine wpAnyH_tk 10 (v := .int .i64 r.1) rfl (by kernel_rfl) (by kernel_rfl) (by kernel_rfl) (yi rfl fun x hx => gives_move (.inr rfl) rfl) hS9 ?_
        go_frame
        refine wpAnyH_done (by kernel_rfl) (noPanic_mk ?_) _
        go_wp2_with fail
        go_meet
        exact ⟨qb, q4, qn4, qc4, rfl, rfl, setRow_heap _ _ _ _ _ _ bk.out, hs4.setRow_ hne _, hS9, hqb⟩
      · have hmid : Below v1.heap.size v1 (v1.alloc (.cells #[.int .i64 0, .slice none 0 0] 24)) := (Below.refl _ _).alloc (Nat.le_refl _) _
        replace hs2 := hs2.below hmid
        clear hmid
        have hS5 : Below wr.heap.size wr (v1.alloc (.cells #[.int .i64 0, .slice none 0 0] 24)) := hS1.alloc hS1.size _
        have bk := hide (Blk.new v1 24 #[.int .i64 0, .slice none 0 0])
        have hqb : wr.heap.size ≤ v1.heap.size := hS1.size
        refine wp_alloc (z := .agg #[.int .i64 0, .slice none 0 0]) (cs := #[.int .i64 0, .slice none 0 0]) rfl (by kernel_rfl) rfl ⟨hS5, ?_⟩
        obtain ⟨qb, hq⟩ : ∃ qb, v1.heap.size = qb := ⟨_, rfl⟩
        rw [hq] at bk hqb ⊢
        obtain ⟨uhS5, hw⟩ : ∃ x, v1.alloc (.cells #[.int .i64 0, .slice none 0 0] 24) = x := ⟨_, rfl⟩
        rw [hw] at bk hS5 hs2 ⊢
        clear hw hq
        go_frame
        refine wpAnyH_1 4 rfl (by kernel_rfl) ?_
        refine wp_call [PV (LP.canon XY).1 q2 qn2 qc2, PV (LP.canon Y).1 Ya yn yc] rfl rfl eDivL rfl ((HDV.out _ _ _ _ hs2 (HY.out.below hS5)).mono ?_)
        rintro e v2 ⟨q4, qn4, qc4, rfl, hs4, hN4, hb2⟩
        have hS2 : Below wr.heap.size wr v2 := hS5.trans (hb2.mono hS5.size)
        have hne : 0 < qn4 → ∀ ad, q4 = some ad → ad.block ≠ qb := fun h ad e => by have := hN4 h ad e; have := bk.out.lt; omega
        replace bk := hide (bk.out.below hb2 bk.out.lt)
        refine ⟨_, rfl, hS2, ?_⟩
        go_frame
        refine wpAnyH_tk 5 (v := .tuple #[PV r.2.1 q4 qn4 qc4, .int .i64 r.1]) rfl (by kernel_rfl) (by kernel_rfl) (by kernel_rfl) (yi rfl fun x hx => gives_move (.inl rfl) rfl) hS2 ?_
        go_frame
        refine wpAnyH_tk 6 (v := PV r.2.1 q4 qn4 qc4) rfl (by kernel_rfl) (by kernel_rfl) (by kernel_rfl) (yi rfl fun x hx => gives_extract rfl rfl rfl) hS2 ?_
        go_frame
        refine wpAnyH_tk 7 (v := .int .i64 r.1) rfl (by kernel_rfl) (by kernel_rfl) (by kernel_rfl) (yi rfl fun x hx => gives_extract rfl rfl rfl) hS2 ?_
        go_frame
        refine wpAnyH_1 9 rfl (by kernel_rfl) ?_
        have hS9 : Below wr.heap.size wr (v2.setRow qb #[.int .i64 r.2.1, .slice q4 qn4 qc4]) := Below.setRow_ hS2 hqb _
        refine wp_storeRow rfl rfl rfl bk.out (by kernel_rfl) rfl (by kernel_rfl) ⟨hS9, ?_⟩
        go_frame
        refine wpAnyH_tk 10 (v := .int .i64 r.1) rfl (by kernel_rfl) (by kernel_rfl) (by kernel_rfl) (yi rfl fun x hx => gives_move (.inr rfl) rfl) hS9 ?_
        go_frame
        refine wpAnyH_done (by kernel_rfl) (noPanic_mk ?_) _
        go_wp2_with fail
        go_meet
        exact ⟨qb, q4, qn4, qc4, rfl, rfl, setRow_heap _ _ _ _ _ _ bk.out, hs4.setRow_ hne _, hS9, hqb⟩
    · have hS6 : Below wr.heap.size wr (wr.drew.alloc (.cells #[.int .i64 0, .slice none 0 0] 24)) := hS0.alloc hS0.size _
      have bk := hide (Blk.new wr.drew 24 #[.int .i64 0, .slice none 0 0])
      have hqb : wr.heap.size ≤ wr.drew.heap.size := hS0.size
      refine wp_alloc (z := .agg #[.int .i64 0, .slice none 0 0]) (cs := #[.int .i64 0, .slice none 0 0]) rfl (by kernel_rfl) rfl ⟨hS6, ?_⟩
      obtain ⟨qb, hq⟩ : ∃ qb, wr.drew.heap.size = qb := ⟨_, rfl⟩
      rw [hq] at bk hqb ⊢
      obtain ⟨uhS6, hw⟩ : ∃ x, wr.drew.alloc (.cells #[.int .i64 0, .slice none 0 0] 24) = x := ⟨_, rfl⟩
      rw [hw] at bk hS6 ⊢
      clear hw hq
      go_frame
      refine wpAnyH_1 2 rfl (by kernel_rfl) ?_
      refine wp_call [PV (LP.canon X).1 Xa xn xc, PV (LP.canon Y).1 Ya yn yc] rfl rfl eMulK rfl ((mul_c HF.out HR.out.rX HR.out.rY HR.out.rXY HR.out.e1 _ _ _ _ _ _ _ (HX.out.below hS6) (HY.out.below hS6)).mono ?_)
      rintro e v1 ⟨q2, qn2, qc2, rfl, hs2, _, hb1⟩
      have hS1 : Below wr.heap.size wr v1 := hS6.trans (hb1.mono hS6.size)
      replace bk := hide (bk.out.below hb1 bk.out.lt)
      refine ⟨_, rfl, hS1, ?_⟩
      go_frame
      refine wpAnyH_1 4 rfl (by kernel_rfl) ?_
      refine wp_call [PV (LP.canon XY).1 q2 qn2 qc2, PV (LP.canon Y).1 Ya yn yc] rfl rfl eDivL rfl ((HDV.out _ _ _ _ hs2 (HY.out.below hS1)).mono ?_)
      rintro e v2 ⟨q4, qn4, qc4, rfl, hs4, hN4, hb2⟩
      have hS2 : Below wr.heap.size wr v2 := hS1.trans (hb2.mono hS1.size)
      have hne : 0 < qn4 → ∀ ad, q4 = some ad → ad.block ≠ qb := fun h ad e => by have := hN4 h ad e; have := bk.out.lt; omega
      replace bk := hide (bk.out.below hb2 bk.out.lt)
      refine ⟨_, rfl, hS2, ?_⟩
      go_frame
      refine wpAnyH_tk 5 (v := .tuple #[PV r.2.1 q4 qn4 qc4, .int .i64 r.1]) rfl (by kernel_rfl) (by kernel_rfl) (by kernel_rfl) (yi rfl fun x hx => gives_move (.inl rfl) rfl) hS2 ?_
      go_frame
      refine wpAnyH_tk 6 (v := PV r.2.1 q4 qn4 qc4) rfl (by kernel_rfl) (by kernel_rfl) (by kernel_rfl) (yi rfl fun x hx => gives_extract rfl rfl rfl) hS2 ?_
      go_frame
      refine wpAnyH_tk 7 (v := .int .i64 r.1) rfl (by kernel_rfl) (by kernel_rfl) (by kernel_rfl) (yi rfl fun x hx => gives_extract rfl rfl rfl) hS2 ?_
      go_frame
      refine wpAnyH_1 9 rfl (by kernel_rfl) ?_
      have hS9 : Below wr.heap.size wr (v2.setRow qb #[.int .i64 r.2.1, .slice q4 qn4 qc4]) := Below.setRow_ hS2 hqb _
      refine wp_storeRow rfl rfl rfl bk.out (by kernel_rfl) rfl (by kernel_rfl) ⟨hS9, ?_⟩
      go_frame
      refine wpAnyH_tk 10 (v := .int .i64 r.1) rfl (by kernel_rfl) (by kernel_rfl) (by kernel_rfl) (yi rfl fun x hx => gives_move (.inr rfl) rfl) hS9 ?_
      go_frame
      refine wpAnyH_done (by kernel_rfl) (noPanic_mk ?_) _
      go_wp2_with fail
      go_meet
      exact ⟨qb, q4, qn4, qc4, rfl, rfl, setRow_heap _ _ _ _ _ _ bk.out, hs4.setRow_ hne _, hS9, hqb⟩
  case rest =>
    obtain ⟨qb, Q, qn, qc, rfl, rfl, hbk, hsl, hb, hge⟩ := hcut
    have lt0 := hbk.lt
    have HB0 := hide hb
    replace HX := hide (HX.out.below hb)
    replace HY := hide (HY.out.below hb)
    replace HW := hide (HW.out.trans (hb.mono HW.out.size))
    replace BX := hide (BX.out.below hb LX.out)
    replace BY := hide (BY.out.below hb LY.out)
    have BQ := hide hbk
    have HQ := hide hsl
    have HGE := hide hge
    clear hb hbk hsl hge
    go_wp2_with fail
    refine (multiplied_k HF.out _).mono ?_
    rintro e w6 ⟨rfl, hb⟩
    replace HX := hide (HX.out.below hb)
    replace HY := hide (HY.out.below hb)
    replace HQ := hide (HQ.out.below hb)
    replace HW := hide (HW.out.trans (hb.mono HW.out.size))
    replace BX := hide (BX.out.below hb BX.out.lt)
    replace BY := hide (BY.out.below hb BY.out.lt)
    replace BQ := hide (BQ.out.below hb lt0)
    have ltq := BQ.out.lt
    have lty := BY.out.lt
    have ltx := BX.out.lt
    clear hb lt0 HB0 HGE LX LY
    have hx0 := BX.out.cell 0
    have hx1 := BX.out.cell 1
    have hy0 := BY.out.cell 0
    have hy1 := BY.out.cell 1
    have hq0 := BQ.out.cell 0
    have hq1 := BQ.out.cell 1
    simp at hx0 hx1 hy0 hy1 hq0 hq1
    have hylen := HY.out.il.len
    by_cases hyn : yn = 0
    · have e0 : ((yn : Int) == 0) = true := by simp; omega
      have hd := LP.divR_zero HR.out.rXY HR.out.rY (by omega)
      rw [HDR.out] at hd
      have hr1 : r.1 = 6 := by rw [hd]
      have hr2 : r.2.1 = 0 := by rw [hd]
      have hr3 : r.2.2 = [] := by rw [hd]
      have HD := hide (And.intro hr2 hr3)
      rw [hr1]
      clear hd hr1 hr2 hr3 hyn hylen
      go_wp2_with fail
      refine (same_n r.2.1 r.2.2 0 [] _ Q qn qc none 0 0 HQ.out (SL.nil_ _) HD.out.1 HD.out.2).mono ?_
      rintro e w7 ⟨rfl, hb⟩
      have HE := hide (HW.out.trans (hb.mono HW.out.size))
      clear hb
      go_wp2_with fail
      go_ret
      exact ⟨rfl, HE.out⟩
    · have e0 : ((yn : Int) == 0) = false := by simp; omega
      have hsm := HY.out.il.small
      obtain ⟨ad, hA, hal, hac⟩ := HY.out.il.mem (by omega)
      have hlast := hac (yn - 1) (by omega)
      subst hA
      obtain ⟨z, hz⟩ : ∃ z, (LP.canon Y).2.getD (yn - 1) 0 = z := ⟨_, rfl⟩
      rw [hz] at hlast
      have hw1 : IntKind.i64.wrap ((yn : Int) - 1) = ((yn - 1 : Nat) : Int) := by rw [IntKind.wrap_i64]; omega
      obtain ⟨k, hk⟩ : ∃ k, yn - 1 = k := ⟨_, rfl⟩
      rw [hk] at hlast hw1 hz
      have hkn : k < yn := by omega
      have hzl : (LP.canon Y).2.getD ((LP.canon Y).2.length - 1) 0 = z := by rw [hylen, hk]; exact hz
      by_cases hu : z = 1 ∨ z = -1
      · have hd := LP.divR_mul HR.out.rX HR.out.rY (by rw [HR.out.e1]; exact HR.out.rXY) (by omega) (by rw [hzl]; exact hu)
        rw [HR.out.e1, HDR.out] at hd
        have hr1 : r.1 = 0 := by rw [hd]
        have hr2 : r.2.1 = (LP.canon X).1 := by rw [hd]
        have hr3 : r.2.2 = (LP.canon X).2 := by rw [hd]
        have HD := hide (And.intro hr2 hr3)
        rw [hr1]
        clear hd hr1 hr2 hr3 hz hk hylen hzl hyn hac
        rcases hu with rfl | rfl
        · go_wp2_with fail
          refine (same_n r.2.1 r.2.2 (LP.canon X).1 (LP.canon X).2 _ Q qn qc Xa xn xc HQ.out HX.out HD.out.1 HD.out.2).mono ?_
          rintro e w7 ⟨rfl, hb⟩
          have HE := hide (HW.out.trans (hb.mono HW.out.size))
          clear hb
          go_wp2_with fail
          go_ret
          exact ⟨rfl, HE.out⟩
        · go_wp2_with fail
          refine (same_n r.2.1 r.2.2 (LP.canon X).1 (LP.canon X).2 _ Q qn qc Xa xn xc HQ.out HX.out HD.out.1 HD.out.2).mono ?_
          rintro e w7 ⟨rfl, hb⟩
          have HE := hide (HW.out.trans (hb.mono HW.out.size))
          clear hb
          go_wp2_with fail
          go_ret
          exact ⟨rfl, HE.out⟩
      · have hd := LP.divR_lead HR.out.rXY HR.out.rY (by omega) (by rw [hzl]; omega) (by rw [hzl]; omega)
        rw [HDR.out] at hd
        have hr1 : r.1 = 3 := by rw [hd]
        have hr2 : r.2.1 = 0 := by rw [hd]
        have hr3 : r.2.2 = [] := by rw [hd]
        have HD := hide (And.intro hr2 hr3)
        have f1 : (z != 1) = true := by simp; omega
        have f2 : (z != -1) = true := by simp; omega
        rw [hr1]
        clear hd hr1 hr2 hr3 hz hk hylen hzl hyn hac
        go_wp2_with fail
        refine (same_n r.2.1 r.2.2 0 [] _ Q qn qc none 0 0 HQ.out (SL.nil_ _) HD.out.1 HD.out.2).mono ?_
        rintro e w7 ⟨rfl, hb⟩
        have HE := hide (HW.out.trans (hb.mono HW.out.size))
        clear hb
        go_wp2_with fail
        go_ret
        exact ⟨rfl, HE.out⟩
end Go.Proofs.Ytbajelbfgekilaa
