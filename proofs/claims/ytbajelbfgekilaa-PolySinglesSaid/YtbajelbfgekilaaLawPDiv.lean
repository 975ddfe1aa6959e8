/- timblaw1.PolyDivides, for a package laurent that answers as it should. -/
import Derived.Test.YtbajelbfgekilaaPoM
import Derived.Test.YtbajelbfgekilaaTov
import Derived.Test.YtbajelbfgekilaaSetRow
namespace Go.Proofs.Ytbajelbfgekilaa
set_option linter.unusedVariables false
set_option linter.unusedSimpArgs false
open Go.RowKit

def LP.pflB (la : Int) (xs : List Int) (lb : Int) (ys : List Int) : Int := if pfl la xs = 0 then pfl lb ys else pfl la xs
theorem LP.two2_err {la lb : Int} {xs ys : List Int} {r : PR} (h : pflB la xs lb ys ≠ 0) : two2 la xs lb ys r = (pflB la xs lb ys, 0, []) := by
  unfold two2
  unfold pflB at h ⊢
  by_cases h1 : pfl la xs = 0
  · rw [if_pos h1] at *; rw [if_pos h1, if_neg h]
  · rw [if_neg h1, if_neg h1]
theorem LP.pflB_zero {la lb : Int} {xs ys : List Int} (h : pflB la xs lb ys = 0) : pfl la xs = 0 ∧ pfl lb ys = 0 := by
  unfold pflB at h
  by_cases h1 : pfl la xs = 0
  · rw [if_pos h1] at h; exact ⟨h1, h⟩
  · rw [if_neg h1] at h; exact absurd h h1
theorem LP.two2_zero {la lb : Int} {xs ys : List Int} {r : PR} (h : pflB la xs lb ys = 0) : two2 la xs lb ys r = r := by
  obtain ⟨h1, h2⟩ := pflB_zero h
  unfold two2; rw [if_pos h1, if_pos h2]
theorem same_y (la : Int) (xs : List Int) (w : World) (A : Option Addr) (n c : Nat) (B : Option Addr) (m d : Nat) (ha : SL w A n c xs) (hb : SL w B m d xs) :
    Calls Try.prog 15 #[PV la A n c, PV la B m d] w fun e w' => e = .returned (.bool true) ∧ Below w.heap.size w w' := by
  have h := same_r la A n c xs la B m d xs w ha hb
  rw [show (decide (la = la) && eqB xs xs) = true by rw [eqB_true rfl]; simp] at h
  exact h

set_option maxRecDepth 100000 in
set_option maxHeartbeats 8000000 in
theorem polyDivides_any (F : PolyC) (la : Int) (A : Option Addr) (n c : Nat) (xs : List Int) (lb : Int) (B : Option Addr) (m d : Nat) (ys : List Int) (w : World) (ha : SL w A n c xs) (hb : SL w B m d ys) (wa : (Lit.int .i64 la).wf = true) (wb : (Lit.int .i64 lb).wf = true) :
    Calls Try.prog 5 #[PV la A n c, PV lb B m d] w fun e w' => e = .returned (.bool true) ∧ Below w.heap.size w w' := by
  have hbw : Below w.heap.size w ((w.alloc (.cells #[.int .i64 la, .slice A n c] 24)).alloc (.cells #[.int .i64 lb, .slice B m d] 24)) := ((Below.refl _ _).alloc (Nat.le_refl _) _).alloc (by simp) _
  have hA := (Blk.new w 24 #[.int .i64 la, .slice A n c]).alloc (.cells #[.int .i64 lb, .slice B m d] 24)
  have hB := Blk.new (w.alloc (.cells #[.int .i64 la, .slice A n c] 24)) 24 #[.int .i64 lb, .slice B m d]
  simp only [World.size_alloc] at hB
  have HA := hide (ha.below hbw)
  have HB := hide (hb.below hbw)
  have HW := hide hbw
  have BA := hide hA
  have BB := hide hB
  have HD := hide (F.div la A n c xs lb B m d ys _ (ha.below hbw) (hb.below hbw) wa wb)
  have HF := hide F
  obtain ⟨r, hr⟩ : ∃ r, LP.divR la xs lb ys = r := ⟨_, rfl⟩
  have HR := hide hr
  rw [hr] at HD
  clear F ha hb hbw hA hB wa wb hr
  go_enter Try.func5, Try.ntmps5
  go_upto_region 1 with fail
  obtain ⟨w0, hw0⟩ : ∃ x, ((w.alloc (.cells #[.int .i64 la, .slice A n c] 24)).alloc (.cells #[.int .i64 lb, .slice B m d] 24)) = x := ⟨_, rfl⟩
  rw [hw0] at HA HB HW BA BB HD ⊢
  clear hw0
  have hq0 := BA.out.cell 0
  have hq1 := BA.out.cell 1
  have hr0 := BB.out.cell 0
  have hr1 := BB.out.cell 1
  simp at hq0 hq1 hr0 hr1
  go_wp2_with fail
  refine HD.out.mono ?_
  rintro e w1 ⟨Q, qn, qc, rfl, hs, _, hb⟩
  replace HA := hide (HA.out.below hb)
  replace HB := hide (HB.out.below hb)
  replace HW := hide (HW.out.trans (hb.mono HW.out.size))
  replace BA := hide (BA.out.below hb BA.out.lt)
  replace BB := hide (BB.out.below hb BB.out.lt)
  have HQ := hide hs
  clear hb hs hq0 hq1 hr0 hr1 HD
  go_upto_region 2 with fail
  have HB5 : Hid (Below w1.heap.size w1 (w1.alloc (.cells #[.int .i64 r.2.1, .slice Q qn qc] 24))) := hide ((Below.refl _ _).alloc (Nat.le_refl _) _)
  have B50 := hide (Blk.new w1 24 #[.int .i64 r.2.1, .slice Q qn qc])
  have HIQ := hide HQ.out.inside
  obtain ⟨b5, hb5⟩ : ∃ b, w1.heap.size = b := ⟨_, rfl⟩
  have hl5 : w.heap.size + 1 < b5 := by have := BB.out.lt; omega
  obtain ⟨w2, hw2⟩ : ∃ x, w1.alloc (.cells #[.int .i64 r.2.1, .slice Q qn qc] 24) = x := ⟨_, rfl⟩
  rw [hw2] at HB5 B50 ⊢
  replace HA := hide (HA.out.below HB5.out)
  replace HB := hide (HB.out.below HB5.out)
  replace HQ := hide (HQ.out.below HB5.out)
  replace HW := hide (HW.out.trans (HB5.out.mono HW.out.size))
  replace BA := hide (BA.out.below HB5.out BA.out.lt)
  replace BB := hide (BB.out.below HB5.out BB.out.lt)
  rw [hb5] at B50 HIQ ⊢
  clear hb5 hw2 HB5
  have hq0 := BA.out.cell 0
  have hq1 := BA.out.cell 1
  simp at hq0 hq1
  go_wp2_with fail
  refine (pfault_any la A n c xs _ HA.out).mono ?_
  rintro e w3 ⟨rfl, hb⟩
  replace HA := hide (HA.out.below hb)
  replace HB := hide (HB.out.below hb)
  replace HQ := hide (HQ.out.below hb)
  replace HW := hide (HW.out.trans (hb.mono HW.out.size))
  replace BA := hide (BA.out.below hb BA.out.lt)
  replace BB := hide (BB.out.below hb BB.out.lt)
  replace B50 := hide (B50.out.below hb B50.out.lt)
  clear hb hq0 hq1
  go_upto_region 3 with fail
  have HB7 : Hid (Below w3.heap.size w3 (w3.alloc (.cells #[.int .i64 0, .slice none 0 0] 24))) := hide ((Below.refl _ _).alloc (Nat.le_refl _) _)
  have B70 := hide (Blk.new w3 24 #[.int .i64 0, .slice none 0 0])
  obtain ⟨b7, hb7⟩ : ∃ b, w3.heap.size = b := ⟨_, rfl⟩
  have hl7 : b5 < b7 := by have := B50.out.lt; omega
  obtain ⟨wr, hwr⟩ : ∃ x, w3.alloc (.cells #[.int .i64 0, .slice none 0 0] 24) = x := ⟨_, rfl⟩
  rw [hwr] at HB7 B70 ⊢
  replace HA := hide (HA.out.below HB7.out)
  replace HB := hide (HB.out.below HB7.out)
  replace HQ := hide (HQ.out.below HB7.out)
  replace HW := hide (HW.out.trans (HB7.out.mono HW.out.size))
  replace BA := hide (BA.out.below HB7.out BA.out.lt)
  replace BB := hide (BB.out.below HB7.out BB.out.lt)
  replace B50 := hide (B50.out.below HB7.out B50.out.lt)
  rw [hb7] at B70 ⊢
  clear hb7 hwr HB7
  obtain ⟨p1, hp1⟩ : ∃ p, LP.pfl la xs = p := ⟨_, rfl⟩
  rw [hp1]
  go_upto_if 19 with fail
  go_cut [8, 20, 21] (fun v8 _ _ wx => v8 = .int .i64 (LP.pflB la xs lb ys) ∧ Below wr.heap.size wr wx)
  case first =>
    by_cases h0 : p1 = 0
    · subst h0
      have HPB : Hid (LP.pflB la xs lb ys = LP.pfl lb ys) := hide (by unfold LP.pflB; rw [if_pos hp1])
      have hr0 := BB.out.cell 0
      have hr1 := BB.out.cell 1
      simp at hr0 hr1
      clear hp1
      go_wp2_with fail
      refine (pfault_any lb B m d ys _ HB.out).mono ?_
      rintro e w4 ⟨rfl, hb⟩
      have HB4 := hide hb
      clear hb hr0 hr1
      go_wp2_with fail
      go_meet
      exact ⟨by rw [HPB.out], HB4.out⟩
    · have HPB : Hid (LP.pflB la xs lb ys = p1) := hide (by unfold LP.pflB; rw [if_neg (by rw [hp1]; exact h0), hp1])
      have hne : (p1 == 0) = false := by simpa using h0
      clear hp1 h0
      go_wp2_with fail
      go_meet
      exact ⟨by rw [HPB.out], Below.refl _ _⟩
  case rest =>
    obtain ⟨rfl, hb⟩ := hcut
    replace HA := hide (HA.out.below hb)
    replace HB := hide (HB.out.below hb)
    replace HQ := hide (HQ.out.below hb)
    replace HW := hide (HW.out.trans (hb.mono HW.out.size))
    replace BA := hide (BA.out.below hb BA.out.lt)
    replace BB := hide (BB.out.below hb BB.out.lt)
    replace B50 := hide (B50.out.below hb B50.out.lt)
    replace B70 := hide (B70.out.below hb B70.out.lt)
    clear hb hp1
    obtain ⟨p2, hp2⟩ : ∃ p, LP.pflB la xs lb ys = p := ⟨_, rfl⟩
    rw [hp2]
    have HP2 := hide hp2
    clear hp2
    go_upto_if 23 with fail
    go_cut [8, 24, 25, 26, 27, 28, 29] (fun v8 _ _ _ _ _ _ wx => v8 = .int .i64 r.1 ∧ ∃ Q2 qn2 qc2, Blk wx b5 24 #[.int .i64 r.2.1, .slice Q qn qc] ∧ Blk wx b7 24 #[.int .i64 r.2.1, .slice Q2 qn2 qc2] ∧ SL wx Q qn qc r.2.2 ∧ SL wx Q2 qn2 qc2 r.2.2 ∧ Below w.heap.size w wx)
    case first =>
      by_cases h0 : p2 = 0
      · subst h0
        obtain ⟨pa, pb⟩ := LP.pflB_zero HP2.out
        have hre : LP.overR la xs lb ys = r := by rw [← HR.out]; unfold LP.divR; rw [LP.two2_zero HP2.out]
        have HO := hide (over_any la A n c xs lb B m d ys _ HA.out HB.out pa pb)
        rw [hre] at HO
        have hq0 := BA.out.cell 0
        have hq1 := BA.out.cell 1
        have hr0 := BB.out.cell 0
        have hr1 := BB.out.cell 1
        simp at hq0 hq1 hr0 hr1
        clear pa pb hre
        go_wp2_with fail
        refine HO.out.mono ?_
        rintro e w4 ⟨Q2, qn2, qc2, rfl, hs, hnw, hb⟩
        have HQ2 := hide hs
        have HFQ2 := hide (show 0 < qn2 → ∀ ad, Q2 = some ad → ad.block ≠ b7 from fun h ad e => by have := hnw h ad e; have := B70.out.lt; omega)
        have HQI : Hid (0 < qn → ∀ ad, Q = some ad → ad.block ≠ b7) := hide (fun h ad e => by have := HIQ.out h ad e; omega)
        replace HQ := hide (HQ.out.below hb)
        replace HW := hide (HW.out.trans (hb.mono HW.out.size))
        replace B50 := hide (B50.out.below hb B50.out.lt)
        replace B70 := hide (B70.out.below hb B70.out.lt)
        clear hb hs hnw hq0 hq1 hr0 hr1 HO HA HB BA BB
        have hf0 := B70.out.frozen 0
        have hf1 := B70.out.frozen 1
        have hc0 := B70.out.cell 0
        have hc1 := B70.out.cell 1
        simp at hc0 hc1
        have hlt := B70.out.lt
        go_wp2_with fail
        go_meet
        refine ⟨rfl, Q2, qn2, qc2, (B50.out.far (p := ⟨b7, 0, none⟩) (show b5 ≠ b7 by omega) _).far (p := ⟨b7, 1, none⟩) (show b5 ≠ b7 by omega) _, (B70.out.set_ 0 (.int .i64 r.2.1)).set_ 1 (.slice Q2 qn2 qc2), (HQ.out.setCell (b := b7) HQI.out 0 _).setCell (b := b7) HQI.out 1 _, (HQ2.out.setCell (b := b7) HFQ2.out 0 _).setCell (b := b7) HFQ2.out 1 _, (HW.out.setCell (p := ⟨b7, 0, none⟩) (by show w.heap.size ≤ b7; omega) _).setCell (p := ⟨b7, 1, none⟩) (by show w.heap.size ≤ b7; omega) _⟩
      · have HE : Hid (r = (p2, 0, [])) := hide (by rw [← HR.out]; unfold LP.divR; rw [LP.two2_err (by rw [HP2.out]; exact h0), HP2.out])
        have hne : (p2 == 0) = false := by simpa using h0
        have HQE := hide HQ.out
        clear h0
        go_wp2_with fail
        go_meet
        rw [HE.out]
        refine ⟨rfl, none, 0, 0, by have h := B50.out; rw [HE.out] at h; exact h, B70.out, by have h := HQ.out; rw [HE.out] at h; exact h, SL.nil_ _, HW.out⟩
    case rest =>
      obtain ⟨rfl, Q2, qn2, qc2, h5, h7, hq, hq2, hw⟩ := hcut
      have H5 := hide h5
      have H7 := hide h7
      have HQ1 := hide hq
      have HQ2 := hide hq2
      have HW2 := hide hw
      clear h5 h7 hq hq2 hw HA HB HQ HW BA BB B50 B70
      go_wp2_with fail
      refine (multiplied_r HF.out _).mono ?_
      rintro e w5 ⟨rfl, hb⟩
      replace H5 := hide (H5.out.below hb H5.out.lt)
      replace H7 := hide (H7.out.below hb H7.out.lt)
      replace HQ1 := hide (HQ1.out.below hb)
      replace HQ2 := hide (HQ2.out.below hb)
      replace HW2 := hide (HW2.out.trans (hb.mono HW2.out.size))
      clear hb
      have hq0 := H5.out.cell 0
      have hq1 := H5.out.cell 1
      have hr0 := H7.out.cell 0
      have hr1 := H7.out.cell 1
      simp at hq0 hq1 hr0 hr1
      go_wp2_with fail
      refine (same_y r.2.1 r.2.2 _ Q qn qc Q2 qn2 qc2 HQ1.out HQ2.out).mono ?_
      rintro e w6 ⟨rfl, hb⟩
      have HW3 := hide (HW2.out.trans (hb.mono HW2.out.size))
      clear hb
      go_wp2_with fail
      go_ret
      exact ⟨rfl, HW3.out⟩
end Go.Proofs.Ytbajelbfgekilaa
