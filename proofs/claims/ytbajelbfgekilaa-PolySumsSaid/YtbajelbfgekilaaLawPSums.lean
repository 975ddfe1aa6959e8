/- timblaw1.PolySums, for a package laurent that answers as it should: the walk. -/
import Derived.Test.YtbajelbfgekilaaPsX
namespace Go.Proofs.Ytbajelbfgekilaa
set_option linter.unusedVariables false
set_option linter.unusedSimpArgs false
open Go.RowKit

set_option maxRecDepth 100000 in
set_option maxHeartbeats 16000000 in
theorem polySums_any (F : PolyC) (la : Int) (A : Option Addr) (n c : Nat) (xs : List Int) (lb : Int) (B : Option Addr) (m d : Nat) (ys : List Int) (w : World) (ha : SL w A n c xs) (hb : SL w B m d ys) (wa : (Lit.int .i64 la).wf = true) (wb : (Lit.int .i64 lb).wf = true) :
    Calls Try.prog 4 #[PV la A n c, PV lb B m d] w fun e w' => e = .returned (.bool true) ∧ Below w.heap.size w w' := by
  have hxl := ha.il.len
  have hyl := hb.il.len
  have hbw : Below w.heap.size w ((w.alloc (.cells #[.int .i64 la, .slice A n c] 24)).alloc (.cells #[.int .i64 lb, .slice B m d] 24)) := ((Below.refl _ _).alloc (Nat.le_refl _) _).alloc (by simp) _
  have hA := (Blk.new w 24 #[.int .i64 la, .slice A n c]).alloc (.cells #[.int .i64 lb, .slice B m d] 24)
  have hB := Blk.new (w.alloc (.cells #[.int .i64 la, .slice A n c] 24)) 24 #[.int .i64 lb, .slice B m d]
  simp only [World.size_alloc] at hB
  have HA := hide (ha.below hbw)
  have HB := hide (hb.below hbw)
  have HW := hide hbw
  have BA := hide hA
  have BB := hide hB
  have HWA := hide wa
  have HWB := hide wb
  have HF := hide F
  clear F ha hb hbw hA hB wa wb
  go_enter Try.func4, Try.ntmps4
  go_upto_region 1 with fail
  obtain ⟨w0, hw0⟩ : ∃ x, ((w.alloc (.cells #[.int .i64 la, .slice A n c] 24)).alloc (.cells #[.int .i64 lb, .slice B m d] 24)) = x := ⟨_, rfl⟩
  rw [hw0] at HA HB HW BA BB ⊢
  clear hw0
  have hq0 := BA.out.cell 0
  have hq1 := BA.out.cell 1
  simp at hq0 hq1
  go_wp2_with fail
  refine (pfault_any la A n c xs _ HA.out).mono ?_
  rintro e wr ⟨rfl, hb⟩
  replace HA := hide (HA.out.below hb)
  replace HB := hide (HB.out.below hb)
  replace HW := hide (HW.out.trans (hb.mono HW.out.size))
  replace BA := hide (BA.out.below hb BA.out.lt)
  replace BB := hide (BB.out.below hb BB.out.lt)
  clear hb hq0 hq1
  obtain ⟨p1, hp1⟩ : ∃ p, LP.pfl la xs = p := ⟨_, rfl⟩
  rw [hp1]
  go_upto_if 17 with fail
  go_cut [5, 18, 19] (fun v5 _ _ wx => v5 = .int .i64 (LP.pflB la xs lb ys) ∧ Below wr.heap.size wr wx)
  case first =>
    by_cases h0 : p1 = 0
    · subst h0
      have HPB : Hid (LP.pflB la xs lb ys = LP.pfl lb ys) := hide (by unfold LP.pflB; rw [if_pos hp1])
      have hr0 := BB.out.cell 0
      have hr1 := BB.out.cell 1
      simp at hr0 hr1
      clear hp1
      go_wp2_with fail
      refine (pfault_any lb B m d ys _ HB.out).mono ?_
      rintro e w4 ⟨rfl, hb⟩
      have HB4 := hide hb
      clear hb hr0 hr1
      go_wp2_with fail
      go_meet
      exact ⟨by rw [HPB.out], HB4.out⟩
    · have HPB : Hid (LP.pflB la xs lb ys = p1) := hide (by unfold LP.pflB; rw [if_neg (by rw [hp1]; exact h0), hp1])
      have hne : (p1 == 0) = false := by simpa using h0
      clear hp1 h0
      go_wp2_with fail
      go_meet
      exact ⟨by rw [HPB.out], Below.refl _ _⟩
  case rest =>
    obtain ⟨rfl, hb⟩ := hcut
    replace HA := hide (HA.out.below hb)
    replace HB := hide (HB.out.below hb)
    replace HW := hide (HW.out.trans (hb.mono HW.out.size))
    replace BA := hide (BA.out.below hb BA.out.lt)
    replace BB := hide (BB.out.below hb BB.out.lt)
    clear hb hp1
    obtain ⟨p2, hp2⟩ : ∃ p, LP.pflB la xs lb ys = p := ⟨_, rfl⟩
    rw [hp2]
    have HP2 := hide hp2
    clear hp2
    go_upto_region 5 with fail
    have HBF : Hid (Below wc.heap.size wc (wc.alloc (.cells #[.func (.func 20) #[] #[], .func (.func 21) #[] #[], .func (.func 22) #[] #[]] 39))) := hide ((Below.refl _ _).alloc (Nat.le_refl _) _)
    have BF := hide (Blk.new wc 39 #[.func (.func 20) #[] #[], .func (.func 21) #[] #[], .func (.func 22) #[] #[]])
    obtain ⟨bf, hbf⟩ : ∃ b, wc.heap.size = b := ⟨_, rfl⟩
    obtain ⟨wl, hwl⟩ : ∃ x, (wc.alloc (.cells #[.func (.func 20) #[] #[], .func (.func 21) #[] #[], .func (.func 22) #[] #[]] 39)) = x := ⟨_, rfl⟩
    rw [hwl] at HBF BF ⊢
    replace HA := hide (HA.out.below HBF.out)
    replace HB := hide (HB.out.below HBF.out)
    replace HW := hide (HW.out.trans (HBF.out.mono HW.out.size))
    replace BA := hide (BA.out.below HBF.out BA.out.lt)
    replace BB := hide (BB.out.below HBF.out BB.out.lt)
    rw [hbf] at BF ⊢
    have HFC : Hid (∀ k, k < 3 → (#[Value.func (.func 20) #[] #[], .func (.func 21) #[] #[], .func (.func 22) #[] #[]])[k]? = some (.func (.func (sumF k)) #[] #[])) := hide (fun k hk => by
      obtain rfl | rfl | rfl : k = 0 ∨ k = 1 ∨ k = 2 := by omega
      · rfl
      · rfl
      · rfl)
    clear hbf hwl HBF
    go_loopw [22] (fun iv wx => ∃ k : Nat, k ≤ 3 ∧ iv = .int .i64 k ∧ Below wl.heap.size wl wx) (fun iv _ => 3 - (intOf iv).toNat)
    case atStart => exact ⟨0, by omega, rfl, Below.refl _ _⟩
    case round =>
      rename World => wx
      obtain ⟨k, hk, rfl, hbx⟩ := hrel
      have HBX := hide hbx
      clear hbx
      by_cases hlt : k < 3
      · have hck : wx.cell? ⟨bf, k, none⟩ = some (.func (.func (sumF k)) #[] #[]) := by
          rw [(BF.out.below HBX.out BF.out.lt).cell k]
          exact HFC.out k hlt
        have hes := eSumF k hlt
        have HC := hide (sumF_any HF.out k hlt la A n c xs lb B m d ys wx (HA.out.below HBX.out) (HB.out.below HBX.out) HWA.out HWB.out)
        obtain ⟨r, hr⟩ : ∃ r, sumR k la xs lb ys = r := ⟨_, rfl⟩
        have HR : Hid (LP.two2 la xs lb ys (LP.fit (sumZ k (LP.of la xs) (LP.of lb ys))) = r) := hide (by rw [← sumR_eq, hr])
        rw [hr] at HC
        generalize sumF k = fid at *
        have hq0 := (BA.out.below HBX.out BA.out.lt).cell 0
        have hq1 := (BA.out.below HBX.out BA.out.lt).cell 1
        have hr0 := (BB.out.below HBX.out BB.out.lt).cell 0
        have hr1 := (BB.out.below HBX.out BB.out.lt).cell 1
        simp at hq0 hq1 hr0 hr1
        clear hr
        go_wp2_with fail
        refine HC.out.mono ?_
        rintro e w3 ⟨Q, qn, qc, rfl, hs, _, hb⟩
        have HQ := hide hs
        replace HBX := hide (HBX.out.trans (hb.mono HBX.out.size))
        clear hs hb HC hq0 hq1 hr0 hr1 hck hes
        go_upto_if 37 with fail
        have HIQ := hide HQ.out.inside
        have hb10 : Below w3.heap.size w3 ((w3.alloc (.cells #[.int .i64 r.2.1, .slice Q qn qc] 24)).alloc (.cells #[.int .i64 0, .slice none 0 0] 24)) := ((Below.refl _ _).alloc (Nat.le_refl _) _).alloc (by simp) _
        have hB8 := (Blk.new w3 24 #[.int .i64 r.2.1, .slice Q qn qc]).alloc (.cells #[.int .i64 0, .slice none 0 0] 24)
        have hB10 := Blk.new (w3.alloc (.cells #[.int .i64 r.2.1, .slice Q qn qc] 24)) 24 #[.int .i64 0, .slice none 0 0]
        simp only [World.size_alloc] at hB10
        have hge8 := HBX.out.size
        obtain ⟨b8, hb8⟩ : ∃ b, w3.heap.size = b := ⟨_, rfl⟩
        obtain ⟨wy, hwy⟩ : ∃ x, ((w3.alloc (.cells #[.int .i64 r.2.1, .slice Q qn qc] 24)).alloc (.cells #[.int .i64 0, .slice none 0 0] 24)) = x := ⟨_, rfl⟩
        rw [hwy] at hb10 hB8 hB10 ⊢
        replace HQ := hide (HQ.out.below hb10)
        replace HBX := hide (HBX.out.trans (hb10.mono HBX.out.size))
        rw [hb8] at hB8 hB10 HIQ hge8 ⊢
        have B8 := hide hB8
        have B10 := hide hB10
        clear hwy hb8 hb10 hB8 hB10
        go_cut [11, 12, 13, 38, 39, 40, 41, 42, 43, 44, 45, 46, 47, 48, 49, 50, 51, 52, 53, 54] (fun v11 _ _ _ _ _ _ _ _ _ _ _ _ _ _ _ _ _ _ _ wz => v11 = .int .i64 r.1 ∧ ∃ Q2 qn2 qc2, Blk wz b8 24 #[.int .i64 r.2.1, .slice Q qn qc] ∧ Blk wz (b8 + 1) 24 #[.int .i64 r.2.1, .slice Q2 qn2 qc2] ∧ SL wz Q qn qc r.2.2 ∧ SL wz Q2 qn2 qc2 r.2.2 ∧ Below wl.heap.size wl wz)
        case first =>
          by_cases h0 : p2 = 0
          · subst h0
            obtain ⟨pa, pb⟩ := LP.pflB_zero HP2.out
            have HRF : Hid (r = LP.fit (sumZ k (LP.of la xs) (LP.of lb ys))) := hide (by rw [← HR.out, LP.two2_zero HP2.out])
            obtain ⟨pa1, pa2, pa3, _, _⟩ := LP.pfl_zero pa
            obtain ⟨pb1, pb2, pb3, _, _⟩ := LP.pfl_zero pb
            have hn2 : n ≤ 200 := by omega
            have hm2 : m ≤ 200 := by omega
            have hla2 : -1000 ≤ la ∧ la ≤ 1000 := ⟨pa2, pa3⟩
            have hlb2 : -1000 ≤ lb ∧ lb ≤ 1000 := ⟨pb2, pb3⟩
            have HXA := hide (fun k => LP.co_of_le (B := 100000000) (LP.pfl_zero pa).2.2.2.2 k (lo := la))
            have HXB := hide (fun k => LP.co_of_le (B := 100000000) (LP.pfl_zero pb).2.2.2.2 k (lo := lb))
            clear pa pb pa1 pa2 pa3 pb1 pb2 pb3 HR
            go_upto_region 10 with fail
            obtain ⟨wq, hwq⟩ : ∃ x, wy = x := ⟨_, rfl⟩
            rw [hwq] at HQ HBX B8 B10 ⊢
            replace HA := hide (HA.out.below HBX.out)
            replace HB := hide (HB.out.below HBX.out)
            replace BA := hide (BA.out.below HBX.out BA.out.lt)
            replace BB := hide (BB.out.below HBX.out BB.out.lt)
            have LA := hide BA.out.lt
            have LB := hide BB.out.lt
            clear hwq
            go_cut [12, 13, 38, 39, 40, 41] (fun v12 v13 _ _ _ _ wz => ∃ b12 b13 ba bb, v12 = .pointer (some ⟨b12, 0, none⟩) ∧ v13 = .pointer (some ⟨b13, 0, none⟩) ∧ Blk wz b12 34 #[.map (some ba)] ∧ Blk wz b13 34 #[.map (some bb)] ∧ NewT wq (LP.of la xs) 1200 ba wz ∧ NewT wq (LP.of lb ys) 1200 bb wz ∧ Below wq.heap.size wq wz)
            case first =>
              refine wp_region_noPanic ?_
              refine wp_region_held_drew (S := fun x => Below wq.heap.size wq x) (by kernel_rfl) (Below.refl _ _).drew (fun hS0 => ?_)
              refine wpAnyH_tk 0 (v := PV la A n c) rfl (by kernel_rfl) (by kernel_rfl) (by kernel_rfl) (yi rfl fun x hx => gives_loadRow rfl rfl (BA.out.below hx LA.out) Try.underlying24 (by kernel_rfl) (by kernel_rfl)) hS0 ?_
              go_frame
              refine wpAnyH_tk 2 (v := PV lb B m d) rfl (by kernel_rfl) (by kernel_rfl) (by kernel_rfl) (yi rfl fun x hx => gives_loadRow rfl rfl (BB.out.below hx LB.out) Try.underlying24 (by kernel_rfl) (by kernel_rfl)) hS0 ?_
              go_frame
              refine wpAnyH_3 1 4 5 rfl rfl rfl (by kernel_rfl) ?_ ?_ ?_
              · refine wp_call [PV la A n c] rfl rfl eSplitR rfl ((split_b la A n c xs wq _ (HA.out.below hS0) hla2 hn2).mono ?_)
                rintro e v1 ⟨ba, rfl, hge, hka, hb⟩
                have hS1 : Below wq.heap.size wq v1 := hS0.trans (hb.mono hS0.size)
                have g_ba : wq.heap.size ≤ ba := by have := hS0.size; omega
                have KA := hide hka
                clear hb hka
                refine ⟨_, rfl, hS1, ?_⟩
                go_frame
                refine wpAnyH_3 3 4 5 rfl rfl rfl (by kernel_rfl) ?_ ?_ ?_
                · refine wp_call [PV lb B m d] rfl rfl eSplitR rfl ((split_b lb B m d ys wq _ (HB.out.below hS1) hlb2 hm2).mono ?_)
                  rintro e v2 ⟨bb, rfl, hge, hkb, hb⟩
                  have hS2 : Below wq.heap.size wq v2 := hS1.trans (hb.mono hS1.size)
                  have g_bb : wq.heap.size ≤ bb := by have := hS1.size; omega
                  have n_ba_bb : ba < bb := by have := KA.out.lt; omega
                  replace KA := hide (KA.out.below hb)
                  have KB := hide hkb
                  clear hb hkb
                  refine ⟨_, rfl, hS2, ?_⟩
                  go_frame
                  refine wpAnyH_2 4 5 rfl rfl (by kernel_rfl) ?_ ?_
                  · have hS3 : Below wq.heap.size wq (v2.alloc (.cells #[.map none] 34)) := hS2.alloc hS2.size _
                    have hb : Below v2.heap.size v2 (v2.alloc (.cells #[.map none] 34)) := (Below.refl _ _).alloc (Nat.le_refl _) _
                    have g_b12 : wq.heap.size ≤ v2.heap.size := hS2.size
                    have n_ba_b12 : ba < v2.heap.size := KA.out.lt
                    have n_bb_b12 : bb < v2.heap.size := KB.out.lt
                    replace KA := hide (KA.out.below hb)
                    replace KB := hide (KB.out.below hb)
                    have K12 := hide (Blk.new v2 34 #[.map none])
                    refine wp_alloc (z := .map none) (cs := #[.map none]) rfl (by kernel_rfl) rfl ⟨hS3, ?_⟩
                    obtain ⟨b12, hq⟩ : ∃ q, v2.heap.size = q := ⟨_, rfl⟩
                    rw [hq] at K12 g_b12 n_ba_b12 n_bb_b12 ⊢
                    obtain ⟨u3, hw⟩ : ∃ x, v2.alloc (.cells #[.map none] 34) = x := ⟨_, rfl⟩
                    rw [hw] at hS3 K12 KA KB ⊢
                    clear hb hw hq
                    go_frame
                    refine wpAnyH_1 5 rfl (by kernel_rfl) ?_
                    have hS4 : Below wq.heap.size wq (u3.alloc (.cells #[.map none] 34)) := hS3.alloc hS3.size _
                    have hb : Below u3.heap.size u3 (u3.alloc (.cells #[.map none] 34)) := (Below.refl _ _).alloc (Nat.le_refl _) _
                    have g_b13 : wq.heap.size ≤ u3.heap.size := hS3.size
                    have n_ba_b13 : ba < u3.heap.size := KA.out.lt
                    have n_bb_b13 : bb < u3.heap.size := KB.out.lt
                    have n_b12_b13 : b12 < u3.heap.size := K12.out.lt
                    replace KA := hide (KA.out.below hb)
                    replace KB := hide (KB.out.below hb)
                    replace K12 := hide (K12.out.below hb K12.out.lt)
                    have K13 := hide (Blk.new u3 34 #[.map none])
                    refine wp_alloc (z := .map none) (cs := #[.map none]) rfl (by kernel_rfl) rfl ⟨hS4, ?_⟩
                    obtain ⟨b13, hq⟩ : ∃ q, u3.heap.size = q := ⟨_, rfl⟩
                    rw [hq] at K13 g_b13 n_ba_b13 n_bb_b13 n_b12_b13 ⊢
                    obtain ⟨u4, hw⟩ : ∃ x, u3.alloc (.cells #[.map none] 34) = x := ⟨_, rfl⟩
                    rw [hw] at hS4 K13 KA KB K12 ⊢
                    clear hb hw hq
                    go_frame
                    refine wpAnyH_1 6 rfl (by kernel_rfl) ?_
                    have hS5 : Below wq.heap.size wq (u4.setCell ⟨b12, 0, none⟩ (.map (some ba))) := hS4.setCell (p := ⟨b12, 0, none⟩) g_b12 _
                    have hcell := K12.out.cell 0
                    have hfro := K12.out.frozen 0
                    simp at hcell
                    refine wp_storeM rfl (by kernel_rfl) (by kernel_rfl) rfl rfl hcell hfro ⟨hS5, ?_⟩
                    replace KA := hide (KA.out.setCell (g := ⟨b12, 0, none⟩) (show ba ≠ b12 by omega) (.map (some ba)))
                    replace KB := hide (KB.out.setCell (g := ⟨b12, 0, none⟩) (show bb ≠ b12 by omega) (.map (some ba)))
                    replace K12 := hide (K12.out.set_ 0 (.map (some ba)))
                    replace K13 := hide (K13.out.far (p := ⟨b12, 0, none⟩) (show b13 ≠ b12 by omega) (.map (some ba)))
                    obtain ⟨x6, hw⟩ : ∃ x, u4.setCell ⟨b12, 0, none⟩ (.map (some ba)) = x := ⟨_, rfl⟩
                    rw [hw] at hS5 KA KB K12 K13 ⊢
                    clear hw hcell hfro
                    go_frame
                    refine wpAnyH_1 7 rfl (by kernel_rfl) ?_
                    have hS6 : Below wq.heap.size wq (x6.setCell ⟨b13, 0, none⟩ (.map (some bb))) := hS5.setCell (p := ⟨b13, 0, none⟩) g_b13 _
                    have hcell := K13.out.cell 0
                    have hfro := K13.out.frozen 0
                    simp at hcell
                    refine wp_storeM rfl (by kernel_rfl) (by kernel_rfl) rfl rfl hcell hfro ⟨hS6, ?_⟩
                    replace KA := hide (KA.out.setCell (g := ⟨b13, 0, none⟩) (show ba ≠ b13 by omega) (.map (some bb)))
                    replace KB := hide (KB.out.setCell (g := ⟨b13, 0, none⟩) (show bb ≠ b13 by omega) (.map (some bb)))
                    replace K12 := hide (K12.out.far (p := ⟨b13, 0, none⟩) (show b12 ≠ b13 by omega) (.map (some bb)))
                    replace K13 := hide (K13.out.set_ 0 (.map (some bb)))
                    obtain ⟨x7, hw⟩ : ∃ x, x6.setCell ⟨b13, 0, none⟩ (.map (some bb)) = x := ⟨_, rfl⟩
                    rw [hw] at hS6 KA KB K12 K13 ⊢
                    clear hw hcell hfro
                    go_frame
                    refine wpAnyH_done (by kernel_rfl) (noPanic_mk ?_) _
                    go_wp2_with fail
                    go_meet
                    exact ⟨b12, b13, ba, bb, rfl, rfl, K12.out, K13.out, KA.out, KB.out, hS6⟩
                  · have hS3 : Below wq.heap.size wq (v2.alloc (.cells #[.map none] 34)) := hS2.alloc hS2.size _
                    have hb : Below v2.heap.size v2 (v2.alloc (.cells #[.map none] 34)) := (Below.refl _ _).alloc (Nat.le_refl _) _
                    have g_b13 : wq.heap.size ≤ v2.heap.size := hS2.size
                    have n_ba_b13 : ba < v2.heap.size := KA.out.lt
                    have n_bb_b13 : bb < v2.heap.size := KB.out.lt
                    replace KA := hide (KA.out.below hb)
                    replace KB := hide (KB.out.below hb)
                    have K13 := hide (Blk.new v2 34 #[.map none])
                    refine wp_alloc (z := .map none) (cs := #[.map none]) rfl (by kernel_rfl) rfl ⟨hS3, ?_⟩
                    obtain ⟨b13, hq⟩ : ∃ q, v2.heap.size = q := ⟨_, rfl⟩
                    rw [hq] at K13 g_b13 n_ba_b13 n_bb_b13 ⊢
                    obtain ⟨u3, hw⟩ : ∃ x, v2.alloc (.cells #[.map none] 34) = x := ⟨_, rfl⟩
                    rw [hw] at hS3 K13 KA KB ⊢
                    clear hb hw hq
                    go_frame
                    refine wpAnyH_1 4 rfl (by kernel_rfl) ?_
                    have hS4 : Below wq.heap.size wq (u3.alloc (.cells #[.map none] 34)) := hS3.alloc hS3.size _
                    have hb : Below u3.heap.size u3 (u3.alloc (.cells #[.map none] 34)) := (Below.refl _ _).alloc (Nat.le_refl _) _
                    have g_b12 : wq.heap.size ≤ u3.heap.size := hS3.size
                    have n_ba_b12 : ba < u3.heap.size := KA.out.lt
                    have n_bb_b12 : bb < u3.heap.size := KB.out.lt
                    have n_b13_b12 : b13 < u3.heap.size := K13.out.lt
                    replace KA := hide (KA.out.below hb)
                    replace KB := hide (KB.out.below hb)
                    replace K13 := hide (K13.out.below hb K13.out.lt)
                    have K12 := hide (Blk.new u3 34 #[.map none])
                    refine wp_alloc (z := .map none) (cs := #[.map none]) rfl (by kernel_rfl) rfl ⟨hS4, ?_⟩
                    obtain ⟨b12, hq⟩ : ∃ q, u3.heap.size = q := ⟨_, rfl⟩
                    rw [hq] at K12 g_b12 n_ba_b12 n_bb_b12 n_b13_b12 ⊢
                    obtain ⟨u4, hw⟩ : ∃ x, u3.alloc (.cells #[.map none] 34) = x := ⟨_, rfl⟩
                    rw [hw] at hS4 K12 KA KB K13 ⊢
                    clear hb hw hq
                    go_frame
                    refine wpAnyH_1 6 rfl (by kernel_rfl) ?_
                    have hS5 : Below wq.heap.size wq (u4.setCell ⟨b12, 0, none⟩ (.map (some ba))) := hS4.setCell (p := ⟨b12, 0, none⟩) g_b12 _
                    have hcell := K12.out.cell 0
                    have hfro := K12.out.frozen 0
                    simp at hcell
                    refine wp_storeM rfl (by kernel_rfl) (by kernel_rfl) rfl rfl hcell hfro ⟨hS5, ?_⟩
                    replace KA := hide (KA.out.setCell (g := ⟨b12, 0, none⟩) (show ba ≠ b12 by omega) (.map (some ba)))
                    replace KB := hide (KB.out.setCell (g := ⟨b12, 0, none⟩) (show bb ≠ b12 by omega) (.map (some ba)))
                    replace K13 := hide (K13.out.far (p := ⟨b12, 0, none⟩) (show b13 ≠ b12 by omega) (.map (some ba)))
                    replace K12 := hide (K12.out.set_ 0 (.map (some ba)))
                    obtain ⟨x6, hw⟩ : ∃ x, u4.setCell ⟨b12, 0, none⟩ (.map (some ba)) = x := ⟨_, rfl⟩
                    rw [hw] at hS5 KA KB K13 K12 ⊢
                    clear hw hcell hfro
                    go_frame
                    refine wpAnyH_1 7 rfl (by kernel_rfl) ?_
                    have hS6 : Below wq.heap.size wq (x6.setCell ⟨b13, 0, none⟩ (.map (some bb))) := hS5.setCell (p := ⟨b13, 0, none⟩) g_b13 _
                    have hcell := K13.out.cell 0
                    have hfro := K13.out.frozen 0
                    simp at hcell
                    refine wp_storeM rfl (by kernel_rfl) (by kernel_rfl) rfl rfl hcell hfro ⟨hS6, ?_⟩
                    replace KA := hide (KA.out.setCell (g := ⟨b13, 0, none⟩) (show ba ≠ b13 by omega) (.map (some bb)))
                    replace KB := hide (KB.out.setCell (g := ⟨b13, 0, none⟩) (show bb ≠ b13 by omega) (.map (some bb)))
                    replace K13 := hide (K13.out.set_ 0 (.map (some bb)))
                    replace K12 := hide (K12.out.far (p := ⟨b13, 0, none⟩) (show b12 ≠ b13 by omega) (.map (some bb)))
                    obtain ⟨x7, hw⟩ : ∃ x, x6.setCell ⟨b13, 0, none⟩ (.map (some bb)) = x := ⟨_, rfl⟩
                    rw [hw] at hS6 KA KB K13 K12 ⊢
                    clear hw hcell hfro
                    go_frame
                    refine wpAnyH_done (by kernel_rfl) (noPanic_mk ?_) _
                    go_wp2_with fail
                    go_meet
                    exact ⟨b12, b13, ba, bb, rfl, rfl, K12.out, K13.out, KA.out, KB.out, hS6⟩
                · have hS2 : Below wq.heap.size wq (v1.alloc (.cells #[.map none] 34)) := hS1.alloc hS1.size _
                  have hb : Below v1.heap.size v1 (v1.alloc (.cells #[.map none] 34)) := (Below.refl _ _).alloc (Nat.le_refl _) _
                  have g_b12 : wq.heap.size ≤ v1.heap.size := hS1.size
                  have n_ba_b12 : ba < v1.heap.size := KA.out.lt
                  replace KA := hide (KA.out.below hb)
                  have K12 := hide (Blk.new v1 34 #[.map none])
                  refine wp_alloc (z := .map none) (cs := #[.map none]) rfl (by kernel_rfl) rfl ⟨hS2, ?_⟩
                  obtain ⟨b12, hq⟩ : ∃ q, v1.heap.size = q := ⟨_, rfl⟩
                  rw [hq] at K12 g_b12 n_ba_b12 ⊢
                  obtain ⟨u2, hw⟩ : ∃ x, v1.alloc (.cells #[.map none] 34) = x := ⟨_, rfl⟩
                  rw [hw] at hS2 K12 KA ⊢
                  clear hb hw hq
                  go_frame
                  refine wpAnyH_2 3 5 rfl rfl (by kernel_rfl) ?_ ?_
                  · refine wp_call [PV lb B m d] rfl rfl eSplitR rfl ((split_b lb B m d ys wq _ (HB.out.below hS2) hlb2 hm2).mono ?_)
                    rintro e v3 ⟨bb, rfl, hge, hkb, hb⟩
                    have hS3 : Below wq.heap.size wq v3 := hS2.trans (hb.mono hS2.size)
                    have g_bb : wq.heap.size ≤ bb := by have := hS2.size; omega
                    have n_ba_bb : ba < bb := by have := KA.out.lt; omega
                    have n_b12_bb : b12 < bb := by have := K12.out.lt; omega
                    replace KA := hide (KA.out.below hb)
                    replace K12 := hide (K12.out.below hb K12.out.lt)
                    have KB := hide hkb
                    clear hb hkb
                    refine ⟨_, rfl, hS3, ?_⟩
                    go_frame
                    refine wpAnyH_1 5 rfl (by kernel_rfl) ?_
                    have hS4 : Below wq.heap.size wq (v3.alloc (.cells #[.map none] 34)) := hS3.alloc hS3.size _
                    have hb : Below v3.heap.size v3 (v3.alloc (.cells #[.map none] 34)) := (Below.refl _ _).alloc (Nat.le_refl _) _
                    have g_b13 : wq.heap.size ≤ v3.heap.size := hS3.size
                    have n_ba_b13 : ba < v3.heap.size := KA.out.lt
                    have n_b12_b13 : b12 < v3.heap.size := K12.out.lt
                    have n_bb_b13 : bb < v3.heap.size := KB.out.lt
                    replace KA := hide (KA.out.below hb)
                    replace K12 := hide (K12.out.below hb K12.out.lt)
                    replace KB := hide (KB.out.below hb)
                    have K13 := hide (Blk.new v3 34 #[.map none])
                    refine wp_alloc (z := .map none) (cs := #[.map none]) rfl (by kernel_rfl) rfl ⟨hS4, ?_⟩
                    obtain ⟨b13, hq⟩ : ∃ q, v3.heap.size = q := ⟨_, rfl⟩
                    rw [hq] at K13 g_b13 n_ba_b13 n_b12_b13 n_bb_b13 ⊢
                    obtain ⟨u4, hw⟩ : ∃ x, v3.alloc (.cells #[.map none] 34) = x := ⟨_, rfl⟩
                    rw [hw] at hS4 K13 KA K12 KB ⊢
                    clear hb hw hq
                    go_frame
                    refine wpAnyH_1 6 rfl (by kernel_rfl) ?_
                    have hS5 : Below wq.heap.size wq (u4.setCell ⟨b12, 0, none⟩ (.map (some ba))) := hS4.setCell (p := ⟨b12, 0, none⟩) g_b12 _
                    have hcell := K12.out.cell 0
                    have hfro := K12.out.frozen 0
                    simp at hcell
                    refine wp_storeM rfl (by kernel_rfl) (by kernel_rfl) rfl rfl hcell hfro ⟨hS5, ?_⟩
                    replace KA := hide (KA.out.setCell (g := ⟨b12, 0, none⟩) (show ba ≠ b12 by omega) (.map (some ba)))
                    replace K12 := hide (K12.out.set_ 0 (.map (some ba)))
                    replace KB := hide (KB.out.setCell (g := ⟨b12, 0, none⟩) (show bb ≠ b12 by omega) (.map (some ba)))
                    replace K13 := hide (K13.out.far (p := ⟨b12, 0, none⟩) (show b13 ≠ b12 by omega) (.map (some ba)))
                    obtain ⟨x6, hw⟩ : ∃ x, u4.setCell ⟨b12, 0, none⟩ (.map (some ba)) = x := ⟨_, rfl⟩
                    rw [hw] at hS5 KA K12 KB K13 ⊢
                    clear hw hcell hfro
                    go_frame
                    refine wpAnyH_1 7 rfl (by kernel_rfl) ?_
                    have hS6 : Below wq.heap.size wq (x6.setCell ⟨b13, 0, none⟩ (.map (some bb))) := hS5.setCell (p := ⟨b13, 0, none⟩) g_b13 _
                    have hcell := K13.out.cell 0
                    have hfro := K13.out.frozen 0
                    simp at hcell
                    refine wp_storeM rfl (by kernel_rfl) (by kernel_rfl) rfl rfl hcell hfro ⟨hS6, ?_⟩
                    replace KA := hide (KA.out.setCell (g := ⟨b13, 0, none⟩) (show ba ≠ b13 by omega) (.map (some bb)))
                    replace K12 := hide (K12.out.far (p := ⟨b13, 0, none⟩) (show b12 ≠ b13 by omega) (.map (some bb)))
                    replace KB := hide (KB.out.setCell (g := ⟨b13, 0, none⟩) (show bb ≠ b13 by omega) (.map (some bb)))
                    replace K13 := hide (K13.out.set_ 0 (.map (some bb)))
                    obtain ⟨x7, hw⟩ : ∃ x, x6.setCell ⟨b13, 0, none⟩ (.map (some bb)) = x := ⟨_, rfl⟩
                    rw [hw] at hS6 KA K12 KB K13 ⊢
                    clear hw hcell hfro
                    go_frame
                    refine wpAnyH_done (by kernel_rfl) (noPanic_mk ?_) _
                    go_wp2_with fail
                    go_meet
                    exact ⟨b12, b13, ba, bb, rfl, rfl, K12.out, K13.out, KA.out, KB.out, hS6⟩
                  · have hS3 : Below wq.heap.size wq (u2.alloc (.cells #[.map none] 34)) := hS2.alloc hS2.size _
                    have hb : Below u2.heap.size u2 (u2.alloc (.cells #[.map none] 34)) := (Below.refl _ _).alloc (Nat.le_refl _) _
                    have g_b13 : wq.heap.size ≤ u2.heap.size := hS2.size
                    have n_ba_b13 : ba < u2.heap.size := KA.out.lt
                    have n_b12_b13 : b12 < u2.heap.size := K12.out.lt
                    replace KA := hide (KA.out.below hb)
                    replace K12 := hide (K12.out.below hb K12.out.lt)
                    have K13 := hide (Blk.new u2 34 #[.map none])
                    refine wp_alloc (z := .map none) (cs := #[.map none]) rfl (by kernel_rfl) rfl ⟨hS3, ?_⟩
                    obtain ⟨b13, hq⟩ : ∃ q, u2.heap.size = q := ⟨_, rfl⟩
                    rw [hq] at K13 g_b13 n_ba_b13 n_b12_b13 ⊢
                    obtain ⟨u3, hw⟩ : ∃ x, u2.alloc (.cells #[.map none] 34) = x := ⟨_, rfl⟩
                    rw [hw] at hS3 K13 KA K12 ⊢
                    clear hb hw hq
                    go_frame
                    refine wpAnyH_1 3 rfl (by kernel_rfl) ?_
                    refine wp_call [PV lb B m d] rfl rfl eSplitR rfl ((split_b lb B m d ys wq _ (HB.out.below hS3) hlb2 hm2).mono ?_)
                    rintro e v4 ⟨bb, rfl, hge, hkb, hb⟩
                    have hS4 : Below wq.heap.size wq v4 := hS3.trans (hb.mono hS3.size)
                    have g_bb : wq.heap.size ≤ bb := by have := hS3.size; omega
                    have n_ba_bb : ba < bb := by have := KA.out.lt; omega
                    have n_b12_bb : b12 < bb := by have := K12.out.lt; omega
                    have n_b13_bb : b13 < bb := by have := K13.out.lt; omega
                    replace KA := hide (KA.out.below hb)
                    replace K12 := hide (K12.out.below hb K12.out.lt)
                    replace K13 := hide (K13.out.below hb K13.out.lt)
                    have KB := hide hkb
                    clear hb hkb
                    refine ⟨_, rfl, hS4, ?_⟩
                    go_frame
                    refine wpAnyH_1 6 rfl (by kernel_rfl) ?_
                    have hS5 : Below wq.heap.size wq (v4.setCell ⟨b12, 0, none⟩ (.map (some ba))) := hS4.setCell (p := ⟨b12, 0, none⟩) g_b12 _
                    have hcell := K12.out.cell 0
                    have hfro := K12.out.frozen 0
                    simp at hcell
                    refine wp_storeM rfl (by kernel_rfl) (by kernel_rfl) rfl rfl hcell hfro ⟨hS5, ?_⟩
                    replace KA := hide (KA.out.setCell (g := ⟨b12, 0, none⟩) (show ba ≠ b12 by omega) (.map (some ba)))
                    replace K12 := hide (K12.out.set_ 0 (.map (some ba)))
                    replace K13 := hide (K13.out.far (p := ⟨b12, 0, none⟩) (show b13 ≠ b12 by omega) (.map (some ba)))
                    replace KB := hide (KB.out.setCell (g := ⟨b12, 0, none⟩) (show bb ≠ b12 by omega) (.map (some ba)))
                    obtain ⟨x6, hw⟩ : ∃ x, v4.setCell ⟨b12, 0, none⟩ (.map (some ba)) = x := ⟨_, rfl⟩
                    rw [hw] at hS5 KA K12 K13 KB ⊢
                    clear hw hcell hfro
                    go_frame
                    refine wpAnyH_1 7 rfl (by kernel_rfl) ?_
                    have hS6 : Below wq.heap.size wq (x6.setCell ⟨b13, 0, none⟩ (.map (some bb))) := hS5.setCell (p := ⟨b13, 0, none⟩) g_b13 _
                    have hcell := K13.out.cell 0
                    have hfro := K13.out.frozen 0
                    simp at hcell
                    refine wp_storeM rfl (by kernel_rfl) (by kernel_rfl) rfl rfl hcell hfro ⟨hS6, ?_⟩
                    replace KA := hide (KA.out.setCell (g := ⟨b13, 0, none⟩) (show ba ≠ b13 by omega) (.map (some bb)))
                    replace K12 := hide (K12.out.far (p := ⟨b13, 0, none⟩) (show b12 ≠ b13 by omega) (.map (some bb)))
                    replace K13 := hide (K13.out.set_ 0 (.map (some bb)))
                    replace KB := hide (KB.out.setCell (g := ⟨b13, 0, none⟩) (show bb ≠ b13 by omega) (.map (some bb)))
                    obtain ⟨x7, hw⟩ : ∃ x, x6.setCell ⟨b13, 0, none⟩ (.map (some bb)) = x := ⟨_, rfl⟩
                    rw [hw] at hS6 KA K12 K13 KB ⊢
                    clear hw hcell hfro
                    go_frame
                    refine wpAnyH_done (by kernel_rfl) (noPanic_mk ?_) _
                    go_wp2_with fail
                    go_meet
                    exact ⟨b12, b13, ba, bb, rfl, rfl, K12.out, K13.out, KA.out, KB.out, hS6⟩
                · have hS2 : Below wq.heap.size wq (v1.alloc (.cells #[.map none] 34)) := hS1.alloc hS1.size _
                  have hb : Below v1.heap.size v1 (v1.alloc (.cells #[.map none] 34)) := (Below.refl _ _).alloc (Nat.le_refl _) _
                  have g_b13 : wq.heap.size ≤ v1.heap.size := hS1.size
                  have n_ba_b13 : ba < v1.heap.size := KA.out.lt
                  replace KA := hide (KA.out.below hb)
                  have K13 := hide (Blk.new v1 34 #[.map none])
                  refine wp_alloc (z := .map none) (cs := #[.map none]) rfl (by kernel_rfl) rfl ⟨hS2, ?_⟩
                  obtain ⟨b13, hq⟩ : ∃ q, v1.heap.size = q := ⟨_, rfl⟩
                  rw [hq] at K13 g_b13 n_ba_b13 ⊢
                  obtain ⟨u2, hw⟩ : ∃ x, v1.alloc (.cells #[.map none] 34) = x := ⟨_, rfl⟩
                  rw [hw] at hS2 K13 KA ⊢
                  clear hb hw hq
                  go_frame
                  refine wpAnyH_2 3 4 rfl rfl (by kernel_rfl) ?_ ?_
                  · refine wp_call [PV lb B m d] rfl rfl eSplitR rfl ((split_b lb B m d ys wq _ (HB.out.below hS2) hlb2 hm2).mono ?_)
                    rintro e v3 ⟨bb, rfl, hge, hkb, hb⟩
                    have hS3 : Below wq.heap.size wq v3 := hS2.trans (hb.mono hS2.size)
                    have g_bb : wq.heap.size ≤ bb := by have := hS2.size; omega
                    have n_ba_bb : ba < bb := by have := KA.out.lt; omega
                    have n_b13_bb : b13 < bb := by have := K13.out.lt; omega
                    replace KA := hide (KA.out.below hb)
                    replace K13 := hide (K13.out.below hb K13.out.lt)
                    have KB := hide hkb
                    clear hb hkb
                    refine ⟨_, rfl, hS3, ?_⟩
                    go_frame
                    refine wpAnyH_1 4 rfl (by kernel_rfl) ?_
                    have hS4 : Below wq.heap.size wq (v3.alloc (.cells #[.map none] 34)) := hS3.alloc hS3.size _
                    have hb : Below v3.heap.size v3 (v3.alloc (.cells #[.map none] 34)) := (Below.refl _ _).alloc (Nat.le_refl _) _
                    have g_b12 : wq.heap.size ≤ v3.heap.size := hS3.size
                    have n_ba_b12 : ba < v3.heap.size := KA.out.lt
                    have n_b13_b12 : b13 < v3.heap.size := K13.out.lt
                    have n_bb_b12 : bb < v3.heap.size := KB.out.lt
                    replace KA := hide (KA.out.below hb)
                    replace K13 := hide (K13.out.below hb K13.out.lt)
                    replace KB := hide (KB.out.below hb)
                    have K12 := hide (Blk.new v3 34 #[.map none])
                    refine wp_alloc (z := .map none) (cs := #[.map none]) rfl (by kernel_rfl) rfl ⟨hS4, ?_⟩
                    obtain ⟨b12, hq⟩ : ∃ q, v3.heap.size = q := ⟨_, rfl⟩
                    rw [hq] at K12 g_b12 n_ba_b12 n_b13_b12 n_bb_b12 ⊢
                    obtain ⟨u4, hw⟩ : ∃ x, v3.alloc (.cells #[.map none] 34) = x := ⟨_, rfl⟩
                    rw [hw] at hS4 K12 KA K13 KB ⊢
                    clear hb hw hq
                    go_frame
                    refine wpAnyH_1 6 rfl (by kernel_rfl) ?_
                    have hS5 : Below wq.heap.size wq (u4.setCell ⟨b12, 0, none⟩ (.map (some ba))) := hS4.setCell (p := ⟨b12, 0, none⟩) g_b12 _
                    have hcell := K12.out.cell 0
                    have hfro := K12.out.frozen 0
                    simp at hcell
                    refine wp_storeM rfl (by kernel_rfl) (by kernel_rfl) rfl rfl hcell hfro ⟨hS5, ?_⟩
                    replace KA := hide (KA.out.setCell (g := ⟨b12, 0, none⟩) (show ba ≠ b12 by omega) (.map (some ba)))
                    replace K13 := hide (K13.out.far (p := ⟨b12, 0, none⟩) (show b13 ≠ b12 by omega) (.map (some ba)))
                    replace KB := hide (KB.out.setCell (g := ⟨b12, 0, none⟩) (show bb ≠ b12 by omega) (.map (some ba)))
                    replace K12 := hide (K12.out.set_ 0 (.map (some ba)))
                    obtain ⟨x6, hw⟩ : ∃ x, u4.setCell ⟨b12, 0, none⟩ (.map (some ba)) = x := ⟨_, rfl⟩
                    rw [hw] at hS5 KA K13 KB K12 ⊢
                    clear hw hcell hfro
                    go_frame
                    refine wpAnyH_1 7 rfl (by kernel_rfl) ?_
                    have hS6 : Below wq.heap.size wq (x6.setCell ⟨b13, 0, none⟩ (.map (some bb))) := hS5.setCell (p := ⟨b13, 0, none⟩) g_b13 _
                    have hcell := K13.out.cell 0
                    have hfro := K13.out.frozen 0
                    simp at hcell
                    refine wp_storeM rfl (by kernel_rfl) (by kernel_rfl) rfl rfl hcell hfro ⟨hS6, ?_⟩
                    replace KA := hide (KA.out.setCell (g := ⟨b13, 0, none⟩) (show ba ≠ b13 by omega) (.map (some bb)))
                    replace K13 := hide (K13.out.set_ 0 (.map (some bb)))
                    replace KB := hide (KB.out.setCell (g := ⟨b13, 0, none⟩) (show bb ≠ b13 by omega) (.map (some bb)))
                    replace K12 := hide (K12.out.far (p := ⟨b13, 0, none⟩) (show b12 ≠ b13 by omega) (.map (some bb)))
                    obtain ⟨x7, hw⟩ : ∃ x, x6.setCell ⟨b13, 0, none⟩ (.map (some bb)) = x := ⟨_, rfl⟩
                    rw [hw] at hS6 KA K13 KB K12 ⊢
                    clear hw hcell hfro
                    go_frame
                    refine wpAnyH_done (by kernel_rfl) (noPanic_mk ?_) _
                    go_wp2_with fail
                    go_meet
                    exact ⟨b12, b13, ba, bb, rfl, rfl, K12.out, K13.out, KA.out, KB.out, hS6⟩
                  · have hS3 : Below wq.heap.size wq (u2.alloc (.cells #[.map none] 34)) := hS2.alloc hS2.size _
                    have hb : Below u2.heap.size u2 (u2.alloc (.cells #[.map none] 34)) := (Below.refl _ _).alloc (Nat.le_refl _) _
                    have g_b12 : wq.heap.size ≤ u2.heap.size := hS2.size
                    have n_ba_b12 : ba < u2.heap.size := KA.out.lt
                    have n_b13_b12 : b13 < u2.heap.size := K13.out.lt
                    replace KA := hide (KA.out.below hb)
                    replace K13 := hide (K13.out.below hb K13.out.lt)
                    have K12 := hide (Blk.new u2 34 #[.map none])
                    refine wp_alloc (z := .map none) (cs := #[.map none]) rfl (by kernel_rfl) rfl ⟨hS3, ?_⟩
                    obtain ⟨b12, hq⟩ : ∃ q, u2.heap.size = q := ⟨_, rfl⟩
                    rw [hq] at K12 g_b12 n_ba_b12 n_b13_b12 ⊢
                    obtain ⟨u3, hw⟩ : ∃ x, u2.alloc (.cells #[.map none] 34) = x := ⟨_, rfl⟩
                    rw [hw] at hS3 K12 KA K13 ⊢
                    clear hb hw hq
                    go_frame
                    refine wpAnyH_1 3 rfl (by kernel_rfl) ?_
                    refine wp_call [PV lb B m d] rfl rfl eSplitR rfl ((split_b lb B m d ys wq _ (HB.out.below hS3) hlb2 hm2).mono ?_)
                    rintro e v4 ⟨bb, rfl, hge, hkb, hb⟩
                    have hS4 : Below wq.heap.size wq v4 := hS3.trans (hb.mono hS3.size)
                    have g_bb : wq.heap.size ≤ bb := by have := hS3.size; omega
                    have n_ba_bb : ba < bb := by have := KA.out.lt; omega
                    have n_b13_bb : b13 < bb := by have := K13.out.lt; omega
                    have n_b12_bb : b12 < bb := by have := K12.out.lt; omega
                    replace KA := hide (KA.out.below hb)
                    replace K13 := hide (K13.out.below hb K13.out.lt)
                    replace K12 := hide (K12.out.below hb K12.out.lt)
                    have KB := hide hkb
                    clear hb hkb
                    refine ⟨_, rfl, hS4, ?_⟩
                    go_frame
                    refine wpAnyH_1 6 rfl (by kernel_rfl) ?_
                    have hS5 : Below wq.heap.size wq (v4.setCell ⟨b12, 0, none⟩ (.map (some ba))) := hS4.setCell (p := ⟨b12, 0, none⟩) g_b12 _
                    have hcell := K12.out.cell 0
                    have hfro := K12.out.frozen 0
                    simp at hcell
                    refine wp_storeM rfl (by kernel_rfl) (by kernel_rfl) rfl rfl hcell hfro ⟨hS5, ?_⟩
                    replace KA := hide (KA.out.setCell (g := ⟨b12, 0, none⟩) (show ba ≠ b12 by omega) (.map (some ba)))
                    replace K13 := hide (K13.out.far (p := ⟨b12, 0, none⟩) (show b13 ≠ b12 by omega) (.map (some ba)))
                    replace K12 := hide (K12.out.set_ 0 (.map (some ba)))
                    replace KB := hide (KB.out.setCell (g := ⟨b12, 0, none⟩) (show bb ≠ b12 by omega) (.map (some ba)))
                    obtain ⟨x6, hw⟩ : ∃ x, v4.setCell ⟨b12, 0, none⟩ (.map (some ba)) = x := ⟨_, rfl⟩
                    rw [hw] at hS5 KA K13 K12 KB ⊢
                    clear hw hcell hfro
                    go_frame
                    refine wpAnyH_1 7 rfl (by kernel_rfl) ?_
                    have hS6 : Below wq.heap.size wq (x6.setCell ⟨b13, 0, none⟩ (.map (some bb))) := hS5.setCell (p := ⟨b13, 0, none⟩) g_b13 _
                    have hcell := K13.out.cell 0
                    have hfro := K13.out.frozen 0
                    simp at hcell
                    refine wp_storeM rfl (by kernel_rfl) (by kernel_rfl) rfl rfl hcell hfro ⟨hS6, ?_⟩
                    replace KA := hide (KA.out.setCell (g := ⟨b13, 0, none⟩) (show ba ≠ b13 by omega) (.map (some bb)))
                    replace K13 := hide (K13.out.set_ 0 (.map (some bb)))
                    replace K12 := hide (K12.out.far (p := ⟨b13, 0, none⟩) (show b12 ≠ b13 by omega) (.map (some bb)))
                    replace KB := hide (KB.out.setCell (g := ⟨b13, 0, none⟩) (show bb ≠ b13 by omega) (.map (some bb)))
                    obtain ⟨x7, hw⟩ : ∃ x, x6.setCell ⟨b13, 0, none⟩ (.map (some bb)) = x := ⟨_, rfl⟩
                    rw [hw] at hS6 KA K13 K12 KB ⊢
                    clear hw hcell hfro
                    go_frame
                    refine wpAnyH_done (by kernel_rfl) (noPanic_mk ?_) _
                    go_wp2_with fail
                    go_meet
                    exact ⟨b12, b13, ba, bb, rfl, rfl, K12.out, K13.out, KA.out, KB.out, hS6⟩
              · have hS1 : Below wq.heap.size wq (wq.drew.alloc (.cells #[.map none] 34)) := hS0.alloc hS0.size _
                have hb : Below wq.drew.heap.size wq.drew (wq.drew.alloc (.cells #[.map none] 34)) := (Below.refl _ _).alloc (Nat.le_refl _) _
                have g_b12 : wq.heap.size ≤ wq.drew.heap.size := hS0.size
                have K12 := hide (Blk.new wq.drew 34 #[.map none])
                refine wp_alloc (z := .map none) (cs := #[.map none]) rfl (by kernel_rfl) rfl ⟨hS1, ?_⟩
                obtain ⟨b12, hq⟩ : ∃ q, wq.drew.heap.size = q := ⟨_, rfl⟩
                rw [hq] at K12 g_b12 ⊢
                obtain ⟨u1, hw⟩ : ∃ x, wq.drew.alloc (.cells #[.map none] 34) = x := ⟨_, rfl⟩
                rw [hw] at hS1 K12 ⊢
                clear hb hw hq
                go_frame
                refine wpAnyH_2 1 5 rfl rfl (by kernel_rfl) ?_ ?_
                · refine wp_call [PV la A n c] rfl rfl eSplitR rfl ((split_b la A n c xs wq _ (HA.out.below hS1) hla2 hn2).mono ?_)
                  rintro e v2 ⟨ba, rfl, hge, hka, hb⟩
                  have hS2 : Below wq.heap.size wq v2 := hS1.trans (hb.mono hS1.size)
                  have g_ba : wq.heap.size ≤ ba := by have := hS1.size; omega
                  have n_b12_ba : b12 < ba := by have := K12.out.lt; omega
                  replace K12 := hide (K12.out.below hb K12.out.lt)
                  have KA := hide hka
                  clear hb hka
                  refine ⟨_, rfl, hS2, ?_⟩
                  go_frame
                  refine wpAnyH_2 3 5 rfl rfl (by kernel_rfl) ?_ ?_
                  · refine wp_call [PV lb B m d] rfl rfl eSplitR rfl ((split_b lb B m d ys wq _ (HB.out.below hS2) hlb2 hm2).mono ?_)
                    rintro e v3 ⟨bb, rfl, hge, hkb, hb⟩
                    have hS3 : Below wq.heap.size wq v3 := hS2.trans (hb.mono hS2.size)
                    have g_bb : wq.heap.size ≤ bb := by have := hS2.size; omega
                    have n_b12_bb : b12 < bb := by have := K12.out.lt; omega
                    have n_ba_bb : ba < bb := by have := KA.out.lt; omega
                    replace K12 := hide (K12.out.below hb K12.out.lt)
                    replace KA := hide (KA.out.below hb)
                    have KB := hide hkb
                    clear hb hkb
                    refine ⟨_, rfl, hS3, ?_⟩
                    go_frame
                    refine wpAnyH_1 5 rfl (by kernel_rfl) ?_
                    have hS4 : Below wq.heap.size wq (v3.alloc (.cells #[.map none] 34)) := hS3.alloc hS3.size _
                    have hb : Below v3.heap.size v3 (v3.alloc (.cells #[.map none] 34)) := (Below.refl _ _).alloc (Nat.le_refl _) _
                    have g_b13 : wq.heap.size ≤ v3.heap.size := hS3.size
                    have n_b12_b13 : b12 < v3.heap.size := K12.out.lt
                    have n_ba_b13 : ba < v3.heap.size := KA.out.lt
                    have n_bb_b13 : bb < v3.heap.size := KB.out.lt
                    replace K12 := hide (K12.out.below hb K12.out.lt)
                    replace KA := hide (KA.out.below hb)
                    replace KB := hide (KB.out.below hb)
                    have K13 := hide (Blk.new v3 34 #[.map none])
                    refine wp_alloc (z := .map none) (cs := #[.map none]) rfl (by kernel_rfl) rfl ⟨hS4, ?_⟩
                    obtain ⟨b13, hq⟩ : ∃ q, v3.heap.size = q := ⟨_, rfl⟩
                    rw [hq] at K13 g_b13 n_b12_b13 n_ba_b13 n_bb_b13 ⊢
                    obtain ⟨u4, hw⟩ : ∃ x, v3.alloc (.cells #[.map none] 34) = x := ⟨_, rfl⟩
                    rw [hw] at hS4 K13 K12 KA KB ⊢
                    clear hb hw hq
                    go_frame
                    refine wpAnyH_1 6 rfl (by kernel_rfl) ?_
                    have hS5 : Below wq.heap.size wq (u4.setCell ⟨b12, 0, none⟩ (.map (some ba))) := hS4.setCell (p := ⟨b12, 0, none⟩) g_b12 _
                    have hcell := K12.out.cell 0
                    have hfro := K12.out.frozen 0
                    simp at hcell
                    refine wp_storeM rfl (by kernel_rfl) (by kernel_rfl) rfl rfl hcell hfro ⟨hS5, ?_⟩
                    replace K12 := hide (K12.out.set_ 0 (.map (some ba)))
                    replace KA := hide (KA.out.setCell (g := ⟨b12, 0, none⟩) (show ba ≠ b12 by omega) (.map (some ba)))
                    replace KB := hide (KB.out.setCell (g := ⟨b12, 0, none⟩) (show bb ≠ b12 by omega) (.map (some ba)))
                    replace K13 := hide (K13.out.far (p := ⟨b12, 0, none⟩) (show b13 ≠ b12 by omega) (.map (some ba)))
                    obtain ⟨x6, hw⟩ : ∃ x, u4.setCell ⟨b12, 0, none⟩ (.map (some ba)) = x := ⟨_, rfl⟩
                    rw [hw] at hS5 K12 KA KB K13 ⊢
                    clear hw hcell hfro
                    go_frame
                    refine wpAnyH_1 7 rfl (by kernel_rfl) ?_
                    have hS6 : Below wq.heap.size wq (x6.setCell ⟨b13, 0, none⟩ (.map (some bb))) := hS5.setCell (p := ⟨b13, 0, none⟩) g_b13 _
                    have hcell := K13.out.cell 0
                    have hfro := K13.out.frozen 0
                    simp at hcell
                    refine wp_storeM rfl (by kernel_rfl) (by kernel_rfl) rfl rfl hcell hfro ⟨hS6, ?_⟩
                    replace K12 := hide (K12.out.far (p := ⟨b13, 0, none⟩) (show b12 ≠ b13 by omega) (.map (some bb)))
                    replace KA := hide (KA.out.setCell (g := ⟨b13, 0, none⟩) (show ba ≠ b13 by omega) (.map (some bb)))
                    replace KB := hide (KB.out.setCell (g := ⟨b13, 0, none⟩) (show bb ≠ b13 by omega) (.map (some bb)))
                    replace K13 := hide (K13.out.set_ 0 (.map (some bb)))
                    obtain ⟨x7, hw⟩ : ∃ x, x6.setCell ⟨b13, 0, none⟩ (.map (some bb)) = x := ⟨_, rfl⟩
                    rw [hw] at hS6 K12 KA KB K13 ⊢
                    clear hw hcell hfro
                    go_frame
                    refine wpAnyH_done (by kernel_rfl) (noPanic_mk ?_) _
                    go_wp2_with fail
                    go_meet
                    exact ⟨b12, b13, ba, bb, rfl, rfl, K12.out, K13.out, KA.out, KB.out, hS6⟩
                  · have hS3 : Below wq.heap.size wq (v2.alloc (.cells #[.map none] 34)) := hS2.alloc hS2.size _
                    have hb : Below v2.heap.size v2 (v2.alloc (.cells #[.map none] 34)) := (Below.refl _ _).alloc (Nat.le_refl _) _
                    have g_b13 : wq.heap.size ≤ v2.heap.size := hS2.size
                    have n_b12_b13 : b12 < v2.heap.size := K12.out.lt
                    have n_ba_b13 : ba < v2.heap.size := KA.out.lt
                    replace K12 := hide (K12.out.below hb K12.out.lt)
                    replace KA := hide (KA.out.below hb)
                    have K13 := hide (Blk.new v2 34 #[.map none])
                    refine wp_alloc (z := .map none) (cs := #[.map none]) rfl (by kernel_rfl) rfl ⟨hS3, ?_⟩
                    obtain ⟨b13, hq⟩ : ∃ q, v2.heap.size = q := ⟨_, rfl⟩
                    rw [hq] at K13 g_b13 n_b12_b13 n_ba_b13 ⊢
                    obtain ⟨u3, hw⟩ : ∃ x, v2.alloc (.cells #[.map none] 34) = x := ⟨_, rfl⟩
                    rw [hw] at hS3 K13 K12 KA ⊢
                    clear hb hw hq
                    go_frame
                    refine wpAnyH_1 3 rfl (by kernel_rfl) ?_
                    refine wp_call [PV lb B m d] rfl rfl eSplitR rfl ((split_b lb B m d ys wq _ (HB.out.below hS3) hlb2 hm2).mono ?_)
                    rintro e v4 ⟨bb, rfl, hge, hkb, hb⟩
                    have hS4 : Below wq.heap.size wq v4 := hS3.trans (hb.mono hS3.size)
                    have g_bb : wq.heap.size ≤ bb := by have := hS3.size; omega
                    have n_b12_bb : b12 < bb := by have := K12.out.lt; omega
                    have n_ba_bb : ba < bb := by have := KA.out.lt; omega
                    have n_b13_bb : b13 < bb := by have := K13.out.lt; omega
                    replace K12 := hide (K12.out.below hb K12.out.lt)
                    replace KA := hide (KA.out.below hb)
                    replace K13 := hide (K13.out.below hb K13.out.lt)
                    have KB := hide hkb
                    clear hb hkb
                    refine ⟨_, rfl, hS4, ?_⟩
                    go_frame
                    refine wpAnyH_1 6 rfl (by kernel_rfl) ?_
                    have hS5 : Below wq.heap.size wq (v4.setCell ⟨b12, 0, none⟩ (.map (some ba))) := hS4.setCell (p := ⟨b12, 0, none⟩) g_b12 _
                    have hcell := K12.out.cell 0
                    have hfro := K12.out.frozen 0
                    simp at hcell
                    refine wp_storeM rfl (by kernel_rfl) (by kernel_rfl) rfl rfl hcell hfro ⟨hS5, ?_⟩
                    replace K12 := hide (K12.out.set_ 0 (.map (some ba)))
                    replace KA := hide (KA.out.setCell (g := ⟨b12, 0, none⟩) (show ba ≠ b12 by omega) (.map (some ba)))
                    replace K13 := hide (K13.out.far (p := ⟨b12, 0, none⟩) (show b13 ≠ b12 by omega) (.map (some ba)))
                    replace KB := hide (KB.out.setCell (g := ⟨b12, 0, none⟩) (show bb ≠ b12 by omega) (.map (some ba)))
                    obtain ⟨x6, hw⟩ : ∃ x, v4.setCell ⟨b12, 0, none⟩ (.map (some ba)) = x := ⟨_, rfl⟩
                    rw [hw] at hS5 K12 KA K13 KB ⊢
                    clear hw hcell hfro
                    go_frame
                    refine wpAnyH_1 7 rfl (by kernel_rfl) ?_
                    have hS6 : Below wq.heap.size wq (x6.setCell ⟨b13, 0, none⟩ (.map (some bb))) := hS5.setCell (p := ⟨b13, 0, none⟩) g_b13 _
                    have hcell := K13.out.cell 0
                    have hfro := K13.out.frozen 0
                    simp at hcell
                    refine wp_storeM rfl (by kernel_rfl) (by kernel_rfl) rfl rfl hcell hfro ⟨hS6, ?_⟩
                    replace K12 := hide (K12.out.far (p := ⟨b13, 0, none⟩) (show b12 ≠ b13 by omega) (.map (some bb)))
                    replace KA := hide (KA.out.setCell (g := ⟨b13, 0, none⟩) (show ba ≠ b13 by omega) (.map (some bb)))
                    replace K13 := hide (K13.out.set_ 0 (.map (some bb)))
                    replace KB := hide (KB.out.setCell (g := ⟨b13, 0, none⟩) (show bb ≠ b13 by omega) (.map (some bb)))
                    obtain ⟨x7, hw⟩ : ∃ x, x6.setCell ⟨b13, 0, none⟩ (.map (some bb)) = x := ⟨_, rfl⟩
                    rw [hw] at hS6 K12 KA K13 KB ⊢
                    clear hw hcell hfro
                    go_frame
                    refine wpAnyH_done (by kernel_rfl) (noPanic_mk ?_) _
                    go_wp2_with fail
                    go_meet
                    exact ⟨b12, b13, ba, bb, rfl, rfl, K12.out, K13.out, KA.out, KB.out, hS6⟩
                · have hS2 : Below wq.heap.size wq (u1.alloc (.cells #[.map none] 34)) := hS1.alloc hS1.size _
                  have hb : Below u1.heap.size u1 (u1.alloc (.cells #[.map none] 34)) := (Below.refl _ _).alloc (Nat.le_refl _) _
                  have g_b13 : wq.heap.size ≤ u1.heap.size := hS1.size
                  have n_b12_b13 : b12 < u1.heap.size := K12.out.lt
                  replace K12 := hide (K12.out.below hb K12.out.lt)
                  have K13 := hide (Blk.new u1 34 #[.map none])
                  refine wp_alloc (z := .map none) (cs := #[.map none]) rfl (by kernel_rfl) rfl ⟨hS2, ?_⟩
                  obtain ⟨b13, hq⟩ : ∃ q, u1.heap.size = q := ⟨_, rfl⟩
                  rw [hq] at K13 g_b13 n_b12_b13 ⊢
                  obtain ⟨u2, hw⟩ : ∃ x, u1.alloc (.cells #[.map none] 34) = x := ⟨_, rfl⟩
                  rw [hw] at hS2 K13 K12 ⊢
                  clear hb hw hq
                  go_frame
                  refine wpAnyH_1 1 rfl (by kernel_rfl) ?_
                  refine wp_call [PV la A n c] rfl rfl eSplitR rfl ((split_b la A n c xs wq _ (HA.out.below hS2) hla2 hn2).mono ?_)
                  rintro e v3 ⟨ba, rfl, hge, hka, hb⟩
                  have hS3 : Below wq.heap.size wq v3 := hS2.trans (hb.mono hS2.size)
                  have g_ba : wq.heap.size ≤ ba := by have := hS2.size; omega
                  have n_b12_ba : b12 < ba := by have := K12.out.lt; omega
                  have n_b13_ba : b13 < ba := by have := K13.out.lt; omega
                  replace K12 := hide (K12.out.below hb K12.out.lt)
                  replace K13 := hide (K13.out.below hb K13.out.lt)
                  have KA := hide hka
                  clear hb hka
                  refine ⟨_, rfl, hS3, ?_⟩
                  go_frame
                  refine wpAnyH_1 3 rfl (by kernel_rfl) ?_
                  refine wp_call [PV lb B m d] rfl rfl eSplitR rfl ((split_b lb B m d ys wq _ (HB.out.below hS3) hlb2 hm2).mono ?_)
                  rintro e v4 ⟨bb, rfl, hge, hkb, hb⟩
                  have hS4 : Below wq.heap.size wq v4 := hS3.trans (hb.mono hS3.size)
                  have g_bb : wq.heap.size ≤ bb := by have := hS3.size; omega
                  have n_b12_bb : b12 < bb := by have := K12.out.lt; omega
                  have n_b13_bb : b13 < bb := by have := K13.out.lt; omega
                  have n_ba_bb : ba < bb := by have := KA.out.lt; omega
                  replace K12 := hide (K12.out.below hb K12.out.lt)
                  replace K13 := hide (K13.out.below hb K13.out.lt)
                  replace KA := hide (KA.out.below hb)
                  have KB := hide hkb
                  clear hb hkb
                  refine ⟨_, rfl, hS4, ?_⟩
                  go_frame
                  refine wpAnyH_1 6 rfl (by kernel_rfl) ?_
                  have hS5 : Below wq.heap.size wq (v4.setCell ⟨b12, 0, none⟩ (.map (some ba))) := hS4.setCell (p := ⟨b12, 0, none⟩) g_b12 _
                  have hcell := K12.out.cell 0
                  have hfro := K12.out.frozen 0
                  simp at hcell
                  refine wp_storeM rfl (by kernel_rfl) (by kernel_rfl) rfl rfl hcell hfro ⟨hS5, ?_⟩
                  replace K12 := hide (K12.out.set_ 0 (.map (some ba)))
                  replace K13 := hide (K13.out.far (p := ⟨b12, 0, none⟩) (show b13 ≠ b12 by omega) (.map (some ba)))
                  replace KA := hide (KA.out.setCell (g := ⟨b12, 0, none⟩) (show ba ≠ b12 by omega) (.map (some ba)))
                  replace KB := hide (KB.out.setCell (g := ⟨b12, 0, none⟩) (show bb ≠ b12 by omega) (.map (some ba)))
                  obtain ⟨x6, hw⟩ : ∃ x, v4.setCell ⟨b12, 0, none⟩ (.map (some ba)) = x := ⟨_, rfl⟩
                  rw [hw] at hS5 K12 K13 KA KB ⊢
                  clear hw hcell hfro
                  go_frame
                  refine wpAnyH_1 7 rfl (by kernel_rfl) ?_
                  have hS6 : Below wq.heap.size wq (x6.setCell ⟨b13, 0, none⟩ (.map (some bb))) := hS5.setCell (p := ⟨b13, 0, none⟩) g_b13 _
                  have hcell := K13.out.cell 0
                  have hfro := K13.out.frozen 0
                  simp at hcell
                  refine wp_storeM rfl (by kernel_rfl) (by kernel_rfl) rfl rfl hcell hfro ⟨hS6, ?_⟩
                  replace K12 := hide (K12.out.far (p := ⟨b13, 0, none⟩) (show b12 ≠ b13 by omega) (.map (some bb)))
                  replace K13 := hide (K13.out.set_ 0 (.map (some bb)))
                  replace KA := hide (KA.out.setCell (g := ⟨b13, 0, none⟩) (show ba ≠ b13 by omega) (.map (some bb)))
                  replace KB := hide (KB.out.setCell (g := ⟨b13, 0, none⟩) (show bb ≠ b13 by omega) (.map (some bb)))
                  obtain ⟨x7, hw⟩ : ∃ x, x6.setCell ⟨b13, 0, none⟩ (.map (some bb)) = x := ⟨_, rfl⟩
                  rw [hw] at hS6 K12 K13 KA KB ⊢
                  clear hw hcell hfro
                  go_frame
                  refine wpAnyH_done (by kernel_rfl) (noPanic_mk ?_) _
                  go_wp2_with fail
                  go_meet
                  exact ⟨b12, b13, ba, bb, rfl, rfl, K12.out, K13.out, KA.out, KB.out, hS6⟩
              · have hS1 : Below wq.heap.size wq (wq.drew.alloc (.cells #[.map none] 34)) := hS0.alloc hS0.size _
                have hb : Below wq.drew.heap.size wq.drew (wq.drew.alloc (.cells #[.map none] 34)) := (Below.refl _ _).alloc (Nat.le_refl _) _
                have g_b13 : wq.heap.size ≤ wq.drew.heap.size := hS0.size
                have K13 := hide (Blk.new wq.drew 34 #[.map none])
                refine wp_alloc (z := .map none) (cs := #[.map none]) rfl (by kernel_rfl) rfl ⟨hS1, ?_⟩
                obtain ⟨b13, hq⟩ : ∃ q, wq.drew.heap.size = q := ⟨_, rfl⟩
                rw [hq] at K13 g_b13 ⊢
                obtain ⟨u1, hw⟩ : ∃ x, wq.drew.alloc (.cells #[.map none] 34) = x := ⟨_, rfl⟩
                rw [hw] at hS1 K13 ⊢
                clear hb hw hq
                go_frame
                refine wpAnyH_2 1 4 rfl rfl (by kernel_rfl) ?_ ?_
                · refine wp_call [PV la A n c] rfl rfl eSplitR rfl ((split_b la A n c xs wq _ (HA.out.below hS1) hla2 hn2).mono ?_)
                  rintro e v2 ⟨ba, rfl, hge, hka, hb⟩
                  have hS2 : Below wq.heap.size wq v2 := hS1.trans (hb.mono hS1.size)
                  have g_ba : wq.heap.size ≤ ba := by have := hS1.size; omega
                  have n_b13_ba : b13 < ba := by have := K13.out.lt; omega
                  replace K13 := hide (K13.out.below hb K13.out.lt)
                  have KA := hide hka
                  clear hb hka
                  refine ⟨_, rfl, hS2, ?_⟩
                  go_frame
                  refine wpAnyH_2 3 4 rfl rfl (by kernel_rfl) ?_ ?_
                  · refine wp_call [PV lb B m d] rfl rfl eSplitR rfl ((split_b lb B m d ys wq _ (HB.out.below hS2) hlb2 hm2).mono ?_)
                    rintro e v3 ⟨bb, rfl, hge, hkb, hb⟩
                    have hS3 : Below wq.heap.size wq v3 := hS2.trans (hb.mono hS2.size)
                    have g_bb : wq.heap.size ≤ bb := by have := hS2.size; omega
                    have n_b13_bb : b13 < bb := by have := K13.out.lt; omega
                    have n_ba_bb : ba < bb := by have := KA.out.lt; omega
                    replace K13 := hide (K13.out.below hb K13.out.lt)
                    replace KA := hide (KA.out.below hb)
                    have KB := hide hkb
                    clear hb hkb
                    refine ⟨_, rfl, hS3, ?_⟩
                    go_frame
                    refine wpAnyH_1 4 rfl (by kernel_rfl) ?_
                    have hS4 : Below wq.heap.size wq (v3.alloc (.cells #[.map none] 34)) := hS3.alloc hS3.size _
                    have hb : Below v3.heap.size v3 (v3.alloc (.cells #[.map none] 34)) := (Below.refl _ _).alloc (Nat.le_refl _) _
                    have g_b12 : wq.heap.size ≤ v3.heap.size := hS3.size
                    have n_b13_b12 : b13 < v3.heap.size := K13.out.lt
                    have n_ba_b12 : ba < v3.heap.size := KA.out.lt
                    have n_bb_b12 : bb < v3.heap.size := KB.out.lt
                    replace K13 := hide (K13.out.below hb K13.out.lt)
                    replace KA := hide (KA.out.below hb)
                    replace KB := hide (KB.out.below hb)
                    have K12 := hide (Blk.new v3 34 #[.map none])
                    refine wp_alloc (z := .map none) (cs := #[.map none]) rfl (by kernel_rfl) rfl ⟨hS4, ?_⟩
                    obtain ⟨b12, hq⟩ : ∃ q, v3.heap.size = q := ⟨_, rfl⟩
                    rw [hq] at K12 g_b12 n_b13_b12 n_ba_b12 n_bb_b12 ⊢
                    obtain ⟨u4, hw⟩ : ∃ x, v3.alloc (.cells #[.map none] 34) = x := ⟨_, rfl⟩
                    rw [hw] at hS4 K12 K13 KA KB ⊢
                    clear hb hw hq
                    go_frame
                    refine wpAnyH_1 6 rfl (by kernel_rfl) ?_
                    have hS5 : Below wq.heap.size wq (u4.setCell ⟨b12, 0, none⟩ (.map (some ba))) := hS4.setCell (p := ⟨b12, 0, none⟩) g_b12 _
                    have hcell := K12.out.cell 0
                    have hfro := K12.out.frozen 0
                    simp at hcell
                    refine wp_storeM rfl (by kernel_rfl) (by kernel_rfl) rfl rfl hcell hfro ⟨hS5, ?_⟩
                    replace K13 := hide (K13.out.far (p := ⟨b12, 0, none⟩) (show b13 ≠ b12 by omega) (.map (some ba)))
                    replace KA := hide (KA.out.setCell (g := ⟨b12, 0, none⟩) (show ba ≠ b12 by omega) (.map (some ba)))
                    replace KB := hide (KB.out.setCell (g := ⟨b12, 0, none⟩) (show bb ≠ b12 by omega) (.map (some ba)))
                    replace K12 := hide (K12.out.set_ 0 (.map (some ba)))
                    obtain ⟨x6, hw⟩ : ∃ x, u4.setCell ⟨b12, 0, none⟩ (.map (some ba)) = x := ⟨_, rfl⟩
                    rw [hw] at hS5 K13 KA KB K12 ⊢
                    clear hw hcell hfro
                    go_frame
                    refine wpAnyH_1 7 rfl (by kernel_rfl) ?_
                    have hS6 : Below wq.heap.size wq (x6.setCell ⟨b13, 0, none⟩ (.map (some bb))) := hS5.setCell (p := ⟨b13, 0, none⟩) g_b13 _
                    have hcell := K13.out.cell 0
                    have hfro := K13.out.frozen 0
                    simp at hcell
                    refine wp_storeM rfl (by kernel_rfl) (by kernel_rfl) rfl rfl hcell hfro ⟨hS6, ?_⟩
                    replace K13 := hide (K13.out.set_ 0 (.map (some bb)))
                    replace KA := hide (KA.out.setCell (g := ⟨b13, 0, none⟩) (show ba ≠ b13 by omega) (.map (some bb)))
                    replace KB := hide (KB.out.setCell (g := ⟨b13, 0, none⟩) (show bb ≠ b13 by omega) (.map (some bb)))
                    replace K12 := hide (K12.out.far (p := ⟨b13, 0, none⟩) (show b12 ≠ b13 by omega) (.map (some bb)))
                    obtain ⟨x7, hw⟩ : ∃ x, x6.setCell ⟨b13, 0, none⟩ (.map (some bb)) = x := ⟨_, rfl⟩
                    rw [hw] at hS6 K13 KA KB K12 ⊢
                    clear hw hcell hfro
                    go_frame
                    refine wpAnyH_done (by kernel_rfl) (noPanic_mk ?_) _
                    go_wp2_with fail
                    go_meet
                    exact ⟨b12, b13, ba, bb, rfl, rfl, K12.out, K13.out, KA.out, KB.out, hS6⟩
                  · have hS3 : Below wq.heap.size wq (v2.alloc (.cells #[.map none] 34)) := hS2.alloc hS2.size _
                    have hb : Below v2.heap.size v2 (v2.alloc (.cells #[.map none] 34)) := (Below.refl _ _).alloc (Nat.le_refl _) _
                    have g_b12 : wq.heap.size ≤ v2.heap.size := hS2.size
                    have n_b13_b12 : b13 < v2.heap.size := K13.out.lt
                    have n_ba_b12 : ba < v2.heap.size := KA.out.lt
                    replace K13 := hide (K13.out.below hb K13.out.lt)
                    replace KA := hide (KA.out.below hb)
                    have K12 := hide (Blk.new v2 34 #[.map none])
                    refine wp_alloc (z := .map none) (cs := #[.map none]) rfl (by kernel_rfl) rfl ⟨hS3, ?_⟩
                    obtain ⟨b12, hq⟩ : ∃ q, v2.heap.size = q := ⟨_, rfl⟩
                    rw [hq] at K12 g_b12 n_b13_b12 n_ba_b12 ⊢
                    obtain ⟨u3, hw⟩ : ∃ x, v2.alloc (.cells #[.map none] 34) = x := ⟨_, rfl⟩
                    rw [hw] at hS3 K12 K13 KA ⊢
                    clear hb hw hq
                    go_frame
                    refine wpAnyH_1 3 rfl (by kernel_rfl) ?_
                    refine wp_call [PV lb B m d] rfl rfl eSplitR rfl ((split_b lb B m d ys wq _ (HB.out.below hS3) hlb2 hm2).mono ?_)
                    rintro e v4 ⟨bb, rfl, hge, hkb, hb⟩
                    have hS4 : Below wq.heap.size wq v4 := hS3.trans (hb.mono hS3.size)
                    have g_bb : wq.heap.size ≤ bb := by have := hS3.size; omega
                    have n_b13_bb : b13 < bb := by have := K13.out.lt; omega
                    have n_ba_bb : ba < bb := by have := KA.out.lt; omega
                    have n_b12_bb : b12 < bb := by have := K12.out.lt; omega
                    replace K13 := hide (K13.out.below hb K13.out.lt)
                    replace KA := hide (KA.out.below hb)
                    replace K12 := hide (K12.out.below hb K12.out.lt)
                    have KB := hide hkb
                    clear hb hkb
                    refine ⟨_, rfl, hS4, ?_⟩
                    go_frame
                    refine wpAnyH_1 6 rfl (by kernel_rfl) ?_
                    have hS5 : Below wq.heap.size wq (v4.setCell ⟨b12, 0, none⟩ (.map (some ba))) := hS4.setCell (p := ⟨b12, 0, none⟩) g_b12 _
                    have hcell := K12.out.cell 0
                    have hfro := K12.out.frozen 0
                    simp at hcell
                    refine wp_storeM rfl (by kernel_rfl) (by kernel_rfl) rfl rfl hcell hfro ⟨hS5, ?_⟩
                    replace K13 := hide (K13.out.far (p := ⟨b12, 0, none⟩) (show b13 ≠ b12 by omega) (.map (some ba)))
                    replace KA := hide (KA.out.setCell (g := ⟨b12, 0, none⟩) (show ba ≠ b12 by omega) (.map (some ba)))
                    replace K12 := hide (K12.out.set_ 0 (.map (some ba)))
                    replace KB := hide (KB.out.setCell (g := ⟨b12, 0, none⟩) (show bb ≠ b12 by omega) (.map (some ba)))
                    obtain ⟨x6, hw⟩ : ∃ x, v4.setCell ⟨b12, 0, none⟩ (.map (some ba)) = x := ⟨_, rfl⟩
                    rw [hw] at hS5 K13 KA K12 KB ⊢
                    clear hw hcell hfro
                    go_frame
                    refine wpAnyH_1 7 rfl (by kernel_rfl) ?_
                    have hS6 : Below wq.heap.size wq (x6.setCell ⟨b13, 0, none⟩ (.map (some bb))) := hS5.setCell (p := ⟨b13, 0, none⟩) g_b13 _
                    have hcell := K13.out.cell 0
                    have hfro := K13.out.frozen 0
                    simp at hcell
                    refine wp_storeM rfl (by kernel_rfl) (by kernel_rfl) rfl rfl hcell hfro ⟨hS6, ?_⟩
                    replace K13 := hide (K13.out.set_ 0 (.map (some bb)))
                    replace KA := hide (KA.out.setCell (g := ⟨b13, 0, none⟩) (show ba ≠ b13 by omega) (.map (some bb)))
                    replace K12 := hide (K12.out.far (p := ⟨b13, 0, none⟩) (show b12 ≠ b13 by omega) (.map (some bb)))
                    replace KB := hide (KB.out.setCell (g := ⟨b13, 0, none⟩) (show bb ≠ b13 by omega) (.map (some bb)))
                    obtain ⟨x7, hw⟩ : ∃ x, x6.setCell ⟨b13, 0, none⟩ (.map (some bb)) = x := ⟨_, rfl⟩
                    rw [hw] at hS6 K13 KA K12 KB ⊢
                    clear hw hcell hfro
                    go_frame
                    refine wpAnyH_done (by kernel_rfl) (noPanic_mk ?_) _
                    go_wp2_with fail
                    go_meet
                    exact ⟨b12, b13, ba, bb, rfl, rfl, K12.out, K13.out, KA.out, KB.out, hS6⟩
                · have hS2 : Below wq.heap.size wq (u1.alloc (.cells #[.map none] 34)) := hS1.alloc hS1.size _
                  have hb : Below u1.heap.size u1 (u1.alloc (.cells #[.map none] 34)) := (Below.refl _ _).alloc (Nat.le_refl _) _
                  have g_b12 : wq.heap.size ≤ u1.heap.size := hS1.size
                  have n_b13_b12 : b13 < u1.heap.size := K13.out.lt
                  replace K13 := hide (K13.out.below hb K13.out.lt)
                  have K12 := hide (Blk.new u1 34 #[.map none])
                  refine wp_alloc (z := .map none) (cs := #[.map none]) rfl (by kernel_rfl) rfl ⟨hS2, ?_⟩
                  obtain ⟨b12, hq⟩ : ∃ q, u1.heap.size = q := ⟨_, rfl⟩
                  rw [hq] at K12 g_b12 n_b13_b12 ⊢
                  obtain ⟨u2, hw⟩ : ∃ x, u1.alloc (.cells #[.map none] 34) = x := ⟨_, rfl⟩
                  rw [hw] at hS2 K12 K13 ⊢
                  clear hb hw hq
                  go_frame
                  refine wpAnyH_1 1 rfl (by kernel_rfl) ?_
                  refine wp_call [PV la A n c] rfl rfl eSplitR rfl ((split_b la A n c xs wq _ (HA.out.below hS2) hla2 hn2).mono ?_)
                  rintro e v3 ⟨ba, rfl, hge, hka, hb⟩
                  have hS3 : Below wq.heap.size wq v3 := hS2.trans (hb.mono hS2.size)
                  have g_ba : wq.heap.size ≤ ba := by have := hS2.size; omega
                  have n_b13_ba : b13 < ba := by have := K13.out.lt; omega
                  have n_b12_ba : b12 < ba := by have := K12.out.lt; omega
                  replace K13 := hide (K13.out.below hb K13.out.lt)
                  replace K12 := hide (K12.out.below hb K12.out.lt)
                  have KA := hide hka
                  clear hb hka
                  refine ⟨_, rfl, hS3, ?_⟩
                  go_frame
                  refine wpAnyH_1 3 rfl (by kernel_rfl) ?_
                  refine wp_call [PV lb B m d] rfl rfl eSplitR rfl ((split_b lb B m d ys wq _ (HB.out.below hS3) hlb2 hm2).mono ?_)
                  rintro e v4 ⟨bb, rfl, hge, hkb, hb⟩
                  have hS4 : Below wq.heap.size wq v4 := hS3.trans (hb.mono hS3.size)
                  have g_bb : wq.heap.size ≤ bb := by have := hS3.size; omega
                  have n_b13_bb : b13 < bb := by have := K13.out.lt; omega
                  have n_b12_bb : b12 < bb := by have := K12.out.lt; omega
                  have n_ba_bb : ba < bb := by have := KA.out.lt; omega
                  replace K13 := hide (K13.out.below hb K13.out.lt)
                  replace K12 := hide (K12.out.below hb K12.out.lt)
                  replace KA := hide (KA.out.below hb)
                  have KB := hide hkb
                  clear hb hkb
                  refine ⟨_, rfl, hS4, ?_⟩
                  go_frame
                  refine wpAnyH_1 6 rfl (by kernel_rfl) ?_
                  have hS5 : Below wq.heap.size wq (v4.setCell ⟨b12, 0, none⟩ (.map (some ba))) := hS4.setCell (p := ⟨b12, 0, none⟩) g_b12 _
                  have hcell := K12.out.cell 0
                  have hfro := K12.out.frozen 0
                  simp at hcell
                  refine wp_storeM rfl (by kernel_rfl) (by kernel_rfl) rfl rfl hcell hfro ⟨hS5, ?_⟩
                  replace K13 := hide (K13.out.far (p := ⟨b12, 0, none⟩) (show b13 ≠ b12 by omega) (.map (some ba)))
                  replace K12 := hide (K12.out.set_ 0 (.map (some ba)))
                  replace KA := hide (KA.out.setCell (g := ⟨b12, 0, none⟩) (show ba ≠ b12 by omega) (.map (some ba)))
                  replace KB := hide (KB.out.setCell (g := ⟨b12, 0, none⟩) (show bb ≠ b12 by omega) (.map (some ba)))
                  obtain ⟨x6, hw⟩ : ∃ x, v4.setCell ⟨b12, 0, none⟩ (.map (some ba)) = x := ⟨_, rfl⟩
                  rw [hw] at hS5 K13 K12 KA KB ⊢
                  clear hw hcell hfro
                  go_frame
                  refine wpAnyH_1 7 rfl (by kernel_rfl) ?_
                  have hS6 : Below wq.heap.size wq (x6.setCell ⟨b13, 0, none⟩ (.map (some bb))) := hS5.setCell (p := ⟨b13, 0, none⟩) g_b13 _
                  have hcell := K13.out.cell 0
                  have hfro := K13.out.frozen 0
                  simp at hcell
                  refine wp_storeM rfl (by kernel_rfl) (by kernel_rfl) rfl rfl hcell hfro ⟨hS6, ?_⟩
                  replace K13 := hide (K13.out.set_ 0 (.map (some bb)))
                  replace K12 := hide (K12.out.far (p := ⟨b13, 0, none⟩) (show b12 ≠ b13 by omega) (.map (some bb)))
                  replace KA := hide (KA.out.setCell (g := ⟨b13, 0, none⟩) (show ba ≠ b13 by omega) (.map (some bb)))
                  replace KB := hide (KB.out.setCell (g := ⟨b13, 0, none⟩) (show bb ≠ b13 by omega) (.map (some bb)))
                  obtain ⟨x7, hw⟩ : ∃ x, x6.setCell ⟨b13, 0, none⟩ (.map (some bb)) = x := ⟨_, rfl⟩
                  rw [hw] at hS6 K13 K12 KA KB ⊢
                  clear hw hcell hfro
                  go_frame
                  refine wpAnyH_done (by kernel_rfl) (noPanic_mk ?_) _
                  go_wp2_with fail
                  go_meet
                  exact ⟨b12, b13, ba, bb, rfl, rfl, K12.out, K13.out, KA.out, KB.out, hS6⟩
            case rest =>
              rename World => wz
              obtain ⟨b12, b13, ba, bb, rfl, rfl, k12, k13, ka, kb, hb⟩ := hcut
              have hmf : ∀ (fn : Fn) (first cap : Array Value) (w : World), (Instr.makeFunc fn first cap).run Try.prog w = .ok (.func fn first cap) w := fun _ _ _ _ => rfl
              have hba : Below wz.heap.size wz (wz.alloc (.cells #[.func (.func 23) #[] #[.pointer (some ⟨b12, 0, none⟩), .pointer (some ⟨b13, 0, none⟩)], .func (.func 25) #[] #[.pointer (some ⟨b12, 0, none⟩), .pointer (some ⟨b13, 0, none⟩)], .func (.func 26) #[] #[.pointer (some ⟨b12, 0, none⟩), .pointer (some ⟨b13, 0, none⟩)]] 41)) := (Below.refl _ _).alloc (Nat.le_refl _) _
              have hbk := Blk.new wz 41 #[.func (.func 23) #[] #[.pointer (some ⟨b12, 0, none⟩), .pointer (some ⟨b13, 0, none⟩)], .func (.func 25) #[] #[.pointer (some ⟨b12, 0, none⟩), .pointer (some ⟨b13, 0, none⟩)], .func (.func 26) #[] #[.pointer (some ⟨b12, 0, none⟩), .pointer (some ⟨b13, 0, none⟩)]]
              have hcx : (wz.alloc (.cells #[.func (.func 23) #[] #[.pointer (some ⟨b12, 0, none⟩), .pointer (some ⟨b13, 0, none⟩)], .func (.func 25) #[] #[.pointer (some ⟨b12, 0, none⟩), .pointer (some ⟨b13, 0, none⟩)], .func (.func 26) #[] #[.pointer (some ⟨b12, 0, none⟩), .pointer (some ⟨b13, 0, none⟩)]] 41)).cell? ⟨wz.heap.size, k, none⟩ = some (.func (.func (sumX k)) #[] #[.pointer (some ⟨b12, 0, none⟩), .pointer (some ⟨b13, 0, none⟩)]) := by
                rw [hbk.cell k]
                obtain rfl | rfl | rfl : k = 0 ∨ k = 1 ∨ k = 2 := by omega
                · rfl
                · rfl
                · rfl
              have HCX := hide (sumX_any k hlt b12 b13 ba bb (LP.of la xs) (LP.of lb ys) wq _ (k12.below hba k12.lt) (k13.below hba k13.lt) (ka.below hba) (kb.below hba) HXA.out HXB.out)
              have hes := eSumX k hlt
              generalize sumX k = fx at *
              replace HQ := hide ((HQ.out.below hb).below hba)
              replace HBX := hide ((HBX.out.trans (hb.mono HBX.out.size)).trans (hba.mono (HBX.out.trans (hb.mono HBX.out.size)).size))
              replace B8 := hide ((B8.out.below hb B8.out.lt).below hba (B8.out.below hb B8.out.lt).lt)
              replace B10 := hide ((B10.out.below hb B10.out.lt).below hba (B10.out.below hb B10.out.lt).lt)
              clear hb hba hbk k12 k13 ka kb HA HB BA BB LA LB HXA HXB
              go_wp2_with fail
              refine HCX.out.mono ?_
              rintro e w5 ⟨bt, ot, rfl, _, hm, ho, hke, hb⟩
              have HM := hide hm
              have HO := hide ho
              have HKE := hide hke
              replace HQ := hide (HQ.out.below hb)
              replace HBX := hide (HBX.out.trans (hb.mono HBX.out.size))
              replace B8 := hide (B8.out.below hb B8.out.lt)
              replace B10 := hide (B10.out.below hb B10.out.lt)
              clear hb hm ho hke HCX hcx hes
              go_wp2_with fail
              refine (tpoly_any bt ot 2400 (by omega) _ HM.out HKE.out).mono ?_
              rintro e w6 ⟨P, pn, pc, rfl, hs, hnw, hb⟩
              rw [HO.out] at hs ⊢
              have HP := hide hs
              have HPN : Hid (0 < pn → ∀ ad, P = some ad → b8 + 1 < ad.block) := hide (fun h ad e => by have := hnw h ad e; have := B10.out.lt; omega)
              replace HQ := hide (HQ.out.below hb)
              replace HBX := hide (HBX.out.trans (hb.mono HBX.out.size))
              replace B8 := hide (B8.out.below hb B8.out.lt)
              replace B10 := hide (B10.out.below hb B10.out.lt)
              have HFT : Hid (LP.fitL (LP.canon (sumZ k (LP.of la xs) (LP.of lb ys))).1 (LP.canon (sumZ k (LP.of la xs) (LP.of lb ys))).2 = r) := hide (by rw [HRF.out]; rfl)
              generalize LP.canon (sumZ k (LP.of la xs) (LP.of lb ys)) = CC at *
              clear hb hs hnw HM HO HKE HRF
              go_wp2_with fail
              refine (fits_any CC.1 P pn pc CC.2 _ HP.out).mono ?_
              rintro e w7 ⟨Q2, qn2, qc2, rfl, hs, hsm, hb⟩
              rw [HFT.out] at hs ⊢
              have HQ2 := hide hs
              have HFQ2 : Hid (0 < qn2 → ∀ ad, Q2 = some ad → ad.block ≠ b8 + 1) := hide (fun h ad e => by obtain ⟨h1, h2⟩ := hsm h; have := HPN.out (by omega) ad (by rw [← h1]; exact e); omega)
              have HFQ : Hid (0 < qn → ∀ ad, Q = some ad → ad.block ≠ b8 + 1) := hide (fun h ad e => by have := HIQ.out h ad e; omega)
              replace HQ := hide (HQ.out.below hb)
              replace HBX := hide (HBX.out.trans (hb.mono HBX.out.size))
              replace B8 := hide (B8.out.below hb B8.out.lt)
              replace B10 := hide (B10.out.below hb B10.out.lt)
              clear hb hs hsm HP HPN HFT
              have hf0 := B10.out.frozen 0
              have hf1 := B10.out.frozen 1
              have hc0 := B10.out.cell 0
              have hc1 := B10.out.cell 1
              simp at hc0 hc1
              have hlt10 := B10.out.lt
              go_wp2_with fail
              go_meet
              refine ⟨rfl, Q2, qn2, qc2, (B8.out.far (p := ⟨b8 + 1, 0, none⟩) (show b8 ≠ b8 + 1 by omega) _).far (p := ⟨b8 + 1, 1, none⟩) (show b8 ≠ b8 + 1 by omega) _, (B10.out.set_ 0 (.int .i64 r.2.1)).set_ 1 (.slice Q2 qn2 qc2), (HQ.out.setCell (b := b8 + 1) HFQ.out 0 _).setCell (b := b8 + 1) HFQ.out 1 _, (HQ2.out.setCell (b := b8 + 1) HFQ2.out 0 _).setCell (b := b8 + 1) HFQ2.out 1 _, (HBX.out.setCell (p := ⟨b8 + 1, 0, none⟩) (by show wl.heap.size ≤ b8 + 1; omega) _).setCell (p := ⟨b8 + 1, 1, none⟩) (by show wl.heap.size ≤ b8 + 1; omega) _⟩
          · have HE : Hid (r = (p2, 0, [])) := hide (by rw [← HR.out, LP.two2_err (by rw [HP2.out]; exact h0), HP2.out])
            have hne : (p2 == 0) = false := by simpa using h0
            clear h0
            go_wp2_with fail
            go_meet
            rw [HE.out]
            refine ⟨rfl, none, 0, 0, by have h := B8.out; rw [HE.out] at h; exact h, B10.out, by have h := HQ.out; rw [HE.out] at h; exact h, SL.nil_ _, HBX.out⟩
        case rest =>
          rename World => wz
          obtain ⟨rfl, Q2, qn2, qc2, h5, h7, hq, hq2, hw⟩ := hcut
          have H5 := hide h5
          have H7 := hide h7
          have HQ1 := hide hq
          have HQ2 := hide hq2
          have HW2 := hide hw
          have hq0 := h5.cell 0
          have hq1 := h5.cell 1
          have hr0 := h7.cell 0
          have hr1 := h7.cell 1
          simp at hq0 hq1 hr0 hr1
          clear h5 h7 hq hq2 hw HQ HBX B8 B10
          go_wp2_with fail
          refine (same_y r.2.1 r.2.2 _ Q qn qc Q2 qn2 qc2 HQ1.out HQ2.out).mono ?_
          rintro e w6 ⟨rfl, hb⟩
          have HW3 := hide (HW2.out.trans (hb.mono HW2.out.size))
          clear hb
          go_wp2_with fail
          go_roundw
          case rel => exact ⟨k + 1, by omega, by go_num, HW3.out⟩
          case measure => simp [intOf]; omega
      · have hk3 : k = 3 := by omega
        have HWX := hide (HW.out.trans (HBX.out.mono HW.out.size))
        subst hk3
        go_wp2_with fail
        refine (multiplied_r HF.out _).mono ?_
        rintro e w5 ⟨rfl, hb⟩
        have HWY := hide (HWX.out.trans (hb.mono HWX.out.size))
        clear hb
        go_wp2_with fail
        go_ret
        exact ⟨rfl, HWY.out⟩
end Go.Proofs.Ytbajelbfgekilaa
