/- Several texts of the walk in one. -/
import Derived.Test.YtihpmdfeonphpaaPart7
import Derived.Test.YtihpmdfeonphpaaPart1
import Derived.Test.YtihpmdfeonphpaaPart5
import Derived.Test.YtihpmdfeonphpaaPart2
/- Package artin: Images. -/
namespace Go.Proofs.Ytihpmdfeonphpaa
set_option linter.unusedVariables false
set_option linter.unusedSimpArgs false
open Go.RowKit Go.Shelf
attribute [local go_sem] Oper.semAt_some

theorem Blk.owned {w w' : World} {b : Nat} {t : TypeId} {ds : Array Value} (hbk : Blk w b t ds) {row : Option Nat} (hg : w.grownBy w' row) (hr : ∀ r, row = some r → ∃ o : Obj, w.heap[r]? = some o ∧ o.isCells = false) : Blk w' b t ds := hbk.grown hg (fun e => by
    obtain ⟨o, h1, h2⟩ := hr b e.symm
    unfold Blk at hbk
    rw [hbk] at h1
    injection h1 with h1
    subst h1
    simp [Obj.isCells] at h2)
/-- What a round of Images finds. -/
structure ImI (w : World) (N g b7 : Nat) (u : List Int) (W : World) : Prop where
  box : Blk W b7 23 #[.slice (some ⟨g, 0, none⟩) N N]
  img : ImB W g N (imgX u)
  r4 : Blk W w.heap.size 23 #[.slice none 0 0]
  r5 : Blk W (w.heap.size + 1) 24 #[.int .i64 0]
  base : Below w.heap.size w W
  nobig : ∀ k, k ≤ u.length → bigA N (u.drop k) = false
theorem ImI.owned {w A B : World} {N g b7 : Nat} {u : List Int} (h : ImI w N g b7 u A) {row : Option Nat} (hg : A.grownBy B row) (hr : ∀ r, row = some r → w.heap.size ≤ r ∧ ∃ o : Obj, A.heap[r]? = some o ∧ o.isCells = false) : ImI w N g b7 u B :=
  have hr2 : ∀ r, row = some r → ∃ o : Obj, A.heap[r]? = some o ∧ o.isCells = false := fun r e => (hr r e).2
  ⟨h.box.owned hg hr2, h.img.owned hg hr2, h.r4.owned hg hr2, h.r5.owned hg hr2, h.base.grown hg h.base.size (fun r e => (hr r e).1), h.nobig⟩

set_option maxRecDepth 100000 in
set_option maxHeartbeats 8000000 in
theorem aimages_any (m : Int) (A : Option Addr) (n c : Nat) (xs : List Int) (w : World) (ha : SL w A n c xs) (hm : (Lit.int .i64 m).wf = true) :
    Calls Try.prog 7 #[.int .i64 m, .slice A n c] w (GivesLLE w (artE m xs) (artI m xs)) := by
  have hla := ha.il.len
  have hns := ha.il.small
  have HL := hide hla
  have HIN := hide ha.inside
  have HWM := hide hm
  have hbw : Below w.heap.size w ((w.alloc (.cells #[.slice none 0 0] 23)).alloc (.cells #[.int .i64 0] 24)) := ((Below.refl _ _).alloc (Nat.le_refl _) _).alloc (by simp) _
  have h4 := (Blk.new w 23 #[.slice none 0 0]).alloc (.cells #[.int .i64 0] 24)
  have h5 := Blk.new (w.alloc (.cells #[.slice none 0 0] 23)) 24 #[.int .i64 0]
  simp only [World.size_alloc] at h5
  have HA := hide (ha.below hbw)
  have HW := hide hbw
  have B4 := hide h4
  have B5 := hide h5
  clear ha hbw h4 h5 hm hla
  obtain ⟨EE, hE⟩ : ∃ E, artE m xs = E := ⟨_, rfl⟩
  obtain ⟨VV, hV⟩ : ∃ V, artI m xs = V := ⟨_, rfl⟩
  have HE := hide hE
  have HV := hide hV
  rw [hE, hV]
  clear hE hV
  refine (callsIn_wide (n := 9)).1 (callsIn_of_wp_marks Try.func7 rfl trivial ?_ rfl)
  simp only [Try.ntmps7, List.size_toArray, List.length_cons, List.length_nil, Nat.reduceAdd, Nat.reduceSub, Array.replicate_succ, Array.replicate_zero, List.push_toArray, List.append_toArray, List.nil_append, List.cons_append]
  refine wpIn_wide.2 ?_
  go_upto_region 1 with fail
  obtain ⟨w0, hw0⟩ : ∃ x2, ((w.alloc (.cells #[.slice none 0 0] 23)).alloc (.cells #[.int .i64 0] 24)) = x2 := ⟨_, rfl⟩
  rw [hw0] at HA HW B4 B5 ⊢
  clear hw0
  go_wp2_with fail
  refine (bcheck_any m A n c xs _ HA.out HWM.out).mono ?_
  rintro e w1 ⟨rfl, hww⟩
  subst hww
  obtain ⟨f, hf⟩ : ∃ f, bfault m xs = f := ⟨_, rfl⟩
  rw [hf]
  have HF := hide hf
  clear hf
  have c4 := B4.out.cell 0
  have c5 := B5.out.cell 0
  have f4 := B4.out.frozen 0
  have f5 := B5.out.frozen 0
  simp at c4 c5
  by_cases h0 : f = 0
  case neg =>
    have HEE : Hid (EE = f) := hide (by rw [← HE.out]; unfold artE; rw [HF.out, if_pos h0])
    have HVV : Hid (VV = []) := hide (by rw [← HV.out]; unfold artI; rw [HE.out, HEE.out, if_neg h0])
    have hne : (f != 0) = true := by simpa using h0
    have k4 := B4.out.set_ 0 (.slice none 0 0)
    have K4 := hide (k4.far (p := ⟨w.heap.size + 1, 0, none⟩) (by show w.heap.size ≠ w.heap.size + 1; omega) (.int .i64 f))
    have K5 := hide ((B5.out.far (p := ⟨w.heap.size, 0, none⟩) (by show w.heap.size + 1 ≠ w.heap.size; omega) (.slice none 0 0)).set_ 0 (.int .i64 f))
    have HWW := hide ((HW.out.setCell (p := ⟨w.heap.size, 0, none⟩) (Nat.le_refl _) (.slice none 0 0)).setCell (p := ⟨w.heap.size + 1, 0, none⟩) (by simp) (.int .i64 f))
    have c5' : (w0.setCell ⟨w.heap.size, 0, none⟩ (.slice none 0 0)).cell? ⟨w.heap.size + 1, 0, none⟩ = some (.int .i64 0) := by
      rw [← c5]; exact World.cell?_setCell_other (w := w0) (a := ⟨w.heap.size, 0, none⟩) (b := ⟨w.heap.size + 1, 0, none⟩) _ (by intro e; have := congrArg Addr.block e; simp at this)
    clear k4
    go_wp2_with fail
    refine ⟨_, results_cc (b := w.heap.size) (c := w.heap.size + 1) rfl _ rfl rfl (K4.out.cell 0) (K5.out.cell 0), ?_⟩
    rw [HEE.out, HVV.out]
    exact ⟨none, 0, 0, rfl, SLL.nil_ _, HWW.out⟩
  subst h0
  have hz := bfault_zero HF.out
  obtain ⟨N, hN⟩ : ∃ N : Nat, m = (N : Int) := ⟨m.toNat, by omega⟩
  subst hN
  have hN1 : 1 ≤ N := by omega
  have hN6 : N ≤ 6 := by omega
  have HOK : Hid (okB N xs) := hide (okB_of (n := N) (fun x hx => by have := hz.2.2.2 x hx; omega))
  have hn30 : n ≤ 30 := by have := hz.2.2.1; rw [HL.out] at this; exact this
  clear hz
  have hlg : w.heap.size + 1 < w0.heap.size := B5.out.lt
  go_wp2_with fail
  refine (agen_any N w0 hN6).mono ?_
  rintro e w1 ⟨rfl, hgi, hb1⟩
  replace HA := hide (HA.out.below hb1)
  replace HW := hide (HW.out.trans (hb1.mono HW.out.size))
  replace B4 := hide (B4.out.below hb1 B4.out.lt)
  replace B5 := hide (B5.out.below hb1 B5.out.lt)
  have HG := hide hgi
  obtain ⟨g, hg⟩ : ∃ g, w0.heap.size = g := ⟨_, rfl⟩
  rw [hg] at hlg HG ⊢
  clear hgi hb1 c4 c5 f4 f5 hg
  have hgw := HG.out.lt
  go_upto_region 5 with fail
  have hbx : Below w1.heap.size w1 (w1.alloc (.cells #[.slice (some ⟨g, 0, none⟩) N N] 23)) := (Below.refl _ _).alloc (Nat.le_refl _) _
  have h7 := Blk.new w1 23 #[.slice (some ⟨g, 0, none⟩) N N]
  obtain ⟨b7, hb7⟩ : ∃ b, w1.heap.size = b := ⟨_, rfl⟩
  have hg7 : g < b7 := by omega
  obtain ⟨w2, hw2⟩ : ∃ x, w1.alloc (.cells #[.slice (some ⟨g, 0, none⟩) N N] 23) = x := ⟨_, rfl⟩
  rw [hw2] at hbx h7 ⊢
  rw [hb7] at h7 ⊢
  replace HA := hide (HA.out.below hbx)
  replace HW := hide (HW.out.trans (hbx.mono HW.out.size))
  replace B4 := hide (B4.out.below hbx B4.out.lt)
  replace B5 := hide (B5.out.below hbx B5.out.lt)
  replace HG := hide (HG.out.below hbx)
  have B7 := hide h7
  clear hbx h7 hw2 hb7 hgw
  go_wp2_with fail
  refine (back_any A n c _).mono ?_
  rintro e w3 ⟨rfl, rfl⟩
  go_wp2_with fail
  have hbb : Below w2.heap.size w2 (w2.alloc (.cells #[.slice A n c] 22)) := (Below.refl _ _).alloc (Nat.le_refl _) _
  have h8 := Blk.new w2 22 #[.slice A n c]
  obtain ⟨b8, hb8⟩ : ∃ b, w2.heap.size = b := ⟨_, rfl⟩
  have hl78 : b7 < b8 := by have := B7.out.lt; omega
  obtain ⟨w3, hw3⟩ : ∃ x, w2.alloc (.cells #[.slice A n c] 22) = x := ⟨_, rfl⟩
  rw [hw3] at hbb h8 ⊢
  rw [hb8] at h8 ⊢
  replace HA := hide (HA.out.below hbb)
  replace HW := hide (HW.out.trans (hbb.mono HW.out.size))
  replace B4 := hide (B4.out.below hbb B4.out.lt)
  replace B5 := hide (B5.out.below hbb B5.out.lt)
  replace B7 := hide (B7.out.below hbb B7.out.lt)
  replace HG := hide (HG.out.below hbb)
  have B8 := hide h8
  have hl8 : b8 < w3.heap.size := h8.lt
  clear hbb h8 hw3 hb8
  have HI0 : Hid (ImI w N g b7 [] w3) := hide ⟨B7.out, HG.out.congr (fun j hj => (imgX_nil j).symm), B4.out, B5.out, HW.out, fun k hk => by
    obtain rfl : k = 0 := by simpa using hk
    exact bigA_nil N⟩
  refine (wpIn_wide (n := 9)).1 (wpIn_rangeFunc_ownG rfl (by decide) (gf := 44) (lb := #[.pointer (some ⟨b8, 0, none⟩)]) rfl trivial eBackX
    (backZ_stops Fence.wide (9 - 1) trivial rfl (by decide) b8 (fun j v => v = xs.getD j 0) A n c hns w3 (fun W hW => BackR.ofIL (by have h := (B8.out.below hW B8.out.lt).cell 0; simpa using h) (HA.out.below hW).il))
    (fun h k hr => k (h hr)) (fun W l o o' _ h ho _ => backK_b W l o o' h ho) (Below.refl _ _) (fun _ => rfl)
    (fun pre W => ImI w N g b7 (wordZ pre) W)
    (fun c pre W => c = .ret ∧ Blk W w.heap.size 23 #[.slice none 0 0] ∧ Blk W (w.heap.size + 1) 24 #[.int .i64 2] ∧ bigA N (wordZ pre) = true ∧ Below w.heap.size w W)
    (fun s A B row hs hg hr => ImI.owned hs hg (fun r e => ⟨by have := (hr r e).1; have := HW.out.size; omega, (hr r e).2⟩))
    (fun c s A B row hs hg hr => ⟨hs.1, hs.2.1.owned hg (fun r e => (hr r e).2), hs.2.2.1.owned hg (fun r e => (hr r e).2), hs.2.2.2.1, hs.2.2.2.2.grown hg hs.2.2.2.2.size (fun r e => by have := (hr r e).1; have := HW.out.size; omega)⟩)
    HI0.out
    (fun p => { tmps := #[.int .i64 N, .slice A n c, undef, undef, .pointer (some ⟨w.heap.size, 0, none⟩), .pointer (some ⟨w.heap.size + 1, 0, none⟩), .int .i64 0, .pointer (some ⟨b7, 0, none⟩), undef, .int .i64 p.1.2,
        .int .i64 N, .slice A n c, .int .i64 0, .int .i64 0, .bool false, undef, .int .i64 N, .slice (some ⟨g, 0, none⟩) N N, .slice A n c, .func (.func 44) #[] #[.pointer (some ⟨b8, 0, none⟩)], .int .i64 p.1.1, .int .i64 p.1.2, undef, undef, undef, undef, undef, undef], defers := [] }) ?assign ?body ?done ?stop)
  case assign =>
    intro l p W K hK
    gi_wp2
    exact hK
  case body =>
    rintro l pre p W hI _
    have hc7 := hI.box.cell 0
    simp at hc7
    have HI := hide hI
    clear hI
    have HOP := hide (wordZ_ok HL.out HOK.out (pre ++ [p]))
    have hx := HOP.out p.1.2 (by rw [wordZ_snoc]; simp)
    have hwz := wordZ_snoc pre p
    have hOK0 : okB N (wordZ pre) := wordZ_ok HL.out HOK.out pre
    have HPUT := hide (aput_any g N (imgX (wordZ pre)) p.1.2 W HI.out.img (by omega) (by omega) hN6 (fun j hj => ⟨imgX_small hN6 hOK0 hj, bigA_no (HI.out.nobig 0 (Nat.zero_le _)) hj⟩))
    have HST : Hid (∀ j, j < N → stepI p.1.2 (imgX (wordZ pre)) j = imgX (wordZ (pre ++ [p])) j) := hide (fun j _ => by rw [hwz]; exact stepI_imgX (by omega) (okB_nz hOK0) j)
    have HNB : Hid (bigA N (wordZ (pre ++ [p])) = false → ∀ k, k ≤ (wordZ (pre ++ [p])).length → bigA N ((wordZ (pre ++ [p])).drop k) = false) := hide (fun h k hk => by
      match k, hk with
      | 0, _ => exact h
      | k + 1, hk =>
        rw [hwz] at hk ⊢
        exact HI.out.nobig k (by simpa using hk))
    obtain ⟨u2, hu2⟩ : ∃ u, wordZ (pre ++ [p]) = u := ⟨_, rfl⟩
    rw [hu2] at HST HNB HOP
    have HU2 := hide hu2
    clear hu2 hwz hOK0 hx
    gi_wp2
    refine ⟨trivial, (CallsIn.inRound l (callsIn_wide.2 HPUT.out)).mono ?_⟩
    rintro e W4 ⟨rfl, hm4, hg4⟩
    have hm5 := hm4.congr HST.out
    have HM := hide hm5
    have HG4 := hide hg4
    have B74 := hide (HI.out.box.grown hg4 (by intro h; injection h with h; omega))
    have B44 := hide (HI.out.r4.grown hg4 (by intro h; injection h with h; omega))
    have B54 := hide (HI.out.r5.grown hg4 (by intro h; injection h with h; omega))
    have HBW := hide (HI.out.base.grown hg4 HI.out.base.size (fun r e => by injection e with e; omega))
    have HKF := hide (KeepsFrom.of_grownBy (B := w3.heap.size) hg4 (fun r e => by injection e with e; omega))
    have HCT := hide (aContains_any (some ⟨g, 0, none⟩) N N _ W4 (HM.out.ill (by omega)))
    rw [show (((List.range N).map (imgX u2)).any fun u => decide (3000 < u.length)) = bigA N u2 from rfl] at HCT
    obtain ⟨q, hq⟩ : ∃ q, bigA N u2 = q := ⟨_, rfl⟩
    rw [hq] at HCT HNB
    have HQ := hide hq
    have hc74 := B74.out.cell 0
    simp at hc74
    clear hc7 hm4 hm5 hg4 hq HPUT
    gi_wp2
    refine ⟨trivial, (CallsIn.inRound l (callsIn_wide.2 HCT.out)).mono ?_⟩
    rintro e W5 ⟨rfl, hww⟩
    subst hww
    cases q
    · gi_wp2
      refine ⟨HKF.out, fun hr => hr.grown HG4.out (by omega) (fun hn ad e => by have := HIN.out hn ad e; omega), by
        show ImI w N g b7 (wordZ (pre ++ [p])) W4
        rw [HU2.out]
        exact ⟨B74.out, HM.out, B44.out, B54.out, HBW.out, HNB.out (by trivial)⟩⟩
    · have c4 := B44.out.cell 0
      have f4 := B44.out.frozen 0
      have c5 := B54.out.cell 0
      have f5 := B54.out.frozen 0
      simp at c4 c5
      have c5' : (W4.setCell ⟨w.heap.size, 0, none⟩ (.slice none 0 0)).cell? ⟨w.heap.size + 1, 0, none⟩ = some (.int .i64 0) := by
        rw [← c5]; exact World.cell?_setCell_other (w := W4) (a := ⟨w.heap.size, 0, none⟩) (b := ⟨w.heap.size + 1, 0, none⟩) _ (by intro e; have := congrArg Addr.block e; simp at this)
      have f5' : (W4.setCell ⟨w.heap.size, 0, none⟩ (.slice none 0 0)).frozen? ⟨w.heap.size + 1, 0, none⟩ = false := (B54.out.far (p := ⟨w.heap.size, 0, none⟩) (by show w.heap.size + 1 ≠ w.heap.size; omega) (.slice none 0 0)).frozen 0
      have K4 := hide ((B44.out.set_ 0 (.slice none 0 0)).far (p := ⟨w.heap.size + 1, 0, none⟩) (by show w.heap.size ≠ w.heap.size + 1; omega) (.int .i64 2))
      have K5 := hide ((B54.out.far (p := ⟨w.heap.size, 0, none⟩) (by show w.heap.size + 1 ≠ w.heap.size; omega) (.slice none 0 0)).set_ 0 (.int .i64 2))
      have HWW := hide ((HBW.out.setCell (p := ⟨w.heap.size, 0, none⟩) (Nat.le_refl _) (.slice none 0 0)).setCell (p := ⟨w.heap.size + 1, 0, none⟩) (by simp) (.int .i64 2))
      have HKF2 := hide ((HKF.out.trans ((KeepsOthers.setCell W4 ⟨w.heap.size, 0, none⟩ (.slice none 0 0)).from _)).trans ((KeepsOthers.setCell _ ⟨w.heap.size + 1, 0, none⟩ (.int .i64 2)).from _))
      gi_wp2
      exact ⟨HKF2.out, rfl, K4.out, K5.out, by rw [HU2.out]; exact HQ.out, HWW.out⟩
  case done =>
    rintro D ys W hD ⟨hlen, hS⟩ hI hK
    have hwd := wordZ_drop HL.out hS
    rw [hlen, Nat.sub_self, List.drop_zero] at hwd
    rw [hwd] at hI
    have HEE : Hid (EE = 0) := hide (by
      rw [← HE.out]
      unfold artE
      rw [HF.out, if_neg (by simp), Int.toNat_natCast, longA_no hI.nobig]
      rfl)
    have HVV : Hid (VV = (List.range N).map (imgX xs)) := hide (by
      rw [← HV.out]
      unfold artI
      rw [HE.out, HEE.out, if_pos rfl, Int.toNat_natCast]
      rfl)
    have HI := hide hI
    clear hI hwd hlen hS
    have c7 := HI.out.box.cell 0
    have c4 := HI.out.r4.cell 0
    have f4 := HI.out.r4.frozen 0
    have c5 := HI.out.r5.cell 0
    have f5 := HI.out.r5.frozen 0
    simp at c4 c5 c7
    have c5' : (W.setCell ⟨w.heap.size, 0, none⟩ (.slice (some ⟨g, 0, none⟩) N N)).cell? ⟨w.heap.size + 1, 0, none⟩ = some (.int .i64 0) := by
      rw [← c5]; exact World.cell?_setCell_other (w := W) (a := ⟨w.heap.size, 0, none⟩) (b := ⟨w.heap.size + 1, 0, none⟩) _ (by intro e; have := congrArg Addr.block e; simp at this)
    have f5' : (W.setCell ⟨w.heap.size, 0, none⟩ (.slice (some ⟨g, 0, none⟩) N N)).frozen? ⟨w.heap.size + 1, 0, none⟩ = false := (HI.out.r5.far (p := ⟨w.heap.size, 0, none⟩) (by show w.heap.size + 1 ≠ w.heap.size; omega) _).frozen 0
    have K4 := hide ((HI.out.r4.set_ 0 (.slice (some ⟨g, 0, none⟩) N N)).far (p := ⟨w.heap.size + 1, 0, none⟩) (by show w.heap.size ≠ w.heap.size + 1; omega) (.int .i64 0))
    have K5 := hide ((HI.out.r5.far (p := ⟨w.heap.size, 0, none⟩) (by show w.heap.size + 1 ≠ w.heap.size; omega) (.slice (some ⟨g, 0, none⟩) N N)).set_ 0 (.int .i64 0))
    have HWW := hide ((HI.out.base.setCell (p := ⟨w.heap.size, 0, none⟩) (Nat.le_refl _) (.slice (some ⟨g, 0, none⟩) N N)).setCell (p := ⟨w.heap.size + 1, 0, none⟩) (by simp) (.int .i64 0))
    have HM := hide ((HI.out.img.setFar (b := w.heap.size) (i := 0) (v := .slice (some ⟨g, 0, none⟩) N N) (by omega)).setFar (b := w.heap.size + 1) (i := 0) (v := .int .i64 0) (by omega))
    have HK2 := hide ((KeepsOthers.setCell _ ⟨w.heap.size + 1, 0, none⟩ (.int .i64 0)).same D _ ((KeepsOthers.setCell W ⟨w.heap.size, 0, none⟩ (.slice (some ⟨g, 0, none⟩) N N)).same D _ hK rfl) rfl)
    clear hK
    go_wp2_with fail
    refine ⟨by simp, .inl ⟨_, _, rfl, run_takeDeferred HK2.out, ?_⟩⟩
    have hkr : ∀ r, some D = some r → ∃ o : Obj, ((W.setCell ⟨w.heap.size, 0, none⟩ (.slice (some ⟨g, 0, none⟩) N N)).setCell ⟨w.heap.size + 1, 0, none⟩ (.int .i64 0)).heap[r]? = some o ∧ o.isCells = false := fun r e => by cases e; exact ⟨_, HK2.out, rfl⟩
    have hgp := grownBy_putObj' ((W.setCell ⟨w.heap.size, 0, none⟩ (.slice (some ⟨g, 0, none⟩) N N)).setCell ⟨w.heap.size + 1, 0, none⟩ (.int .i64 0)) D (.deferred none)
    refine ⟨_, results_cc (b := w.heap.size) (c := w.heap.size + 1) rfl _ rfl rfl ((K4.out.owned hgp hkr).cell 0) ((K5.out.owned hgp hkr).cell 0), ?_⟩
    rw [HEE.out, HVV.out]
    exact ⟨_, _, _, rfl, (HM.out.owned hgp hkr).sll (by omega), HWW.out.grown hgp HWW.out.size (fun r e => by cases e; have := HW.out.size; omega)⟩
  case stop =>
    rintro D c pre W _ hS ⟨rfl, h4, h5, hbig, hb⟩ hK
    have HEE : Hid (EE = 2) := hide (by
      rw [← HE.out]
      unfold artE
      rw [HF.out, if_neg (by simp), Int.toNat_natCast, longA_yes (k := n - pre.length) (by rw [HL.out]; omega) (by rw [← wordZ_drop HL.out hS]; exact hbig)]
      rfl)
    have HVV : Hid (VV = []) := hide (by rw [← HV.out]; unfold artI; rw [HE.out, HEE.out, if_neg (by decide)])
    have hgp := grownBy_putObj' W D (.deferred none)
    have hkr : ∀ r, some D = some r → ∃ o : Obj, W.heap[r]? = some o ∧ o.isCells = false := fun r e => by cases e; exact ⟨_, hK, rfl⟩
    gi_wp2
    refine ⟨by simp, .inl ⟨_, _, rfl, run_takeDeferred hK, ?_⟩⟩
    refine ⟨_, results_cc (b := w.heap.size) (c := w.heap.size + 1) rfl _ rfl rfl ((h4.owned hgp hkr).cell 0) ((h5.owned hgp hkr).cell 0), ?_⟩
    rw [HEE.out, HVV.out]
    exact ⟨none, 0, 0, rfl, SLL.nil_ _, hb.grown hgp hb.size (fun r e => by cases e; have := HW.out.size; omega)⟩
end Go.Proofs.Ytihpmdfeonphpaa
/- Package artin: Equal. -/
namespace Go.Proofs.Ytihpmdfeonphpaa
set_option linter.unusedVariables false
set_option linter.unusedSimpArgs false
open Go.RowKit

theorem listsI_ext {xss yss : List (List Int)} (hl : xss.length = yss.length) (h : ∀ j, j < xss.length → eqB (xss.getD j []) (yss.getD j []) = true) : xss = yss := by
  refine List.ext_getElem hl fun j h1 h2 => ?_
  have := eqB_iff.1 (h j h1)
  simpa [List.getD, List.getElem?_eq_getElem h1, List.getElem?_eq_getElem h2] using this
theorem eSEq : ∀ args w, (callFunc 19 args).run Try.prog w = .ok (.enter 19 args) w := enters (fn := Try.f19) (by kernel_rfl) (by kernel_rfl) (by kernel_rfl)

set_option maxHeartbeats 1000000 in
theorem aEqualFunc_any (A B : Option Addr) (n m c d : Nat) (xss yss : List (List Int)) (w : World) (ha : ILL w A n xss) (hb : ILL w B m yss) :
    Calls Try.prog 23 #[.slice A n c, .slice B m d, .func (.func 19) #[] #[]] w fun e w' => e = .returned (.bool (decide (xss = yss))) ∧ Below w.heap.size w w' := by
  have hsm := ha.small
  have hsn := hb.small
  have HLX := hide ha.len
  have HLY := hide hb.len
  have HA := hide ha
  have HB := hide hb
  have e1 := eSEq
  clear ha hb
  by_cases hnm : n = m
  case neg =>
    have HE : Hid (decide (xss = yss) = false) := hide (decide_eq_false (fun h => hnm (by rw [← HLX.out, ← HLY.out, h])))
    have hne : ((n : Int) != m) = true := by simpa using (fun h : (n : Int) = m => hnm (by omega))
    go_enter Try.func23, Try.ntmps23
    go_wp2_with fail
    go_ret
    rw [HE.out]
    exact ⟨rfl, Below.refl _ _⟩
  subst hnm
  go_enter Try.func23, Try.ntmps23
  go_wp2
  go_loopw [17] (fun i wr => ∃ k : Nat, k ≤ n ∧ i = .int .i64 k ∧ Hid (∀ j, j < k → eqB (xss.getD j []) (yss.getD j []) = true) ∧ Below w.heap.size w wr) (fun i _ => n - (intOf i).toNat)
  case atStart => exact ⟨0, Nat.zero_le _, rfl, hide (fun j hj => absurd hj (by omega)), Below.refl _ _⟩
  case round =>
    obtain ⟨k, hk, rfl, HN, hnx⟩ := hrel
    by_cases hlt : k < n
    · obtain ⟨ad, B8, m8, d8, rfl, hc8, hi8⟩ := (HA.out.below hnx).at_ hlt
      obtain ⟨bd, B9, m9, d9, rfl, hc9, hi9⟩ := (HB.out.below hnx).at_ hlt
      have HC := hide (equal_any B8 B9 m8 m9 d8 d9 _ _ wr hi8 hi9)
      have HX := hide hnx
      clear hi8 hi9
      by_cases hq : eqB (xss.getD k []) (yss.getD k []) = true
      · have HN2 : Hid (∀ j, j < k + 1 → eqB (xss.getD j []) (yss.getD j []) = true) := hide (fun j hj => by
          by_cases e : j = k
          · rw [e]; exact hq
          · exact HN.out j (by omega))
        rw [hq] at HC
        clear hq hnx
        go_wp2_with fail
        refine HC.out.mono ?_
        rintro e w2 h2
        have hb2 : e = .returned (.bool true) ∧ Below wr.heap.size wr w2 := by first | exact h2 | exact ⟨h2.1, by rw [← h2.2]; exact Below.refl _ _⟩
        obtain ⟨rfl, hb2⟩ := hb2
        have HX2 := hide (HX.out.trans (hb2.mono HX.out.size))
        clear hb2 h2
        go_wp2
        go_roundw
        case rel => exact ⟨k + 1, by omega, by go_num, HN2, HX2.out⟩
        case measure => simp [intOf]; omega
      · have hq' : eqB (xss.getD k []) (yss.getD k []) = false := by simpa using hq
        have HE : Hid (decide (xss = yss) = false) := hide (decide_eq_false (fun h => hq (by rw [h]; exact eqB_true rfl)))
        rw [hq'] at HC
        clear hq hq' hnx
        go_wp2_with fail
        refine HC.out.mono ?_
        rintro e w2 h2
        have hb2 : e = .returned (.bool false) ∧ Below wr.heap.size wr w2 := by first | exact h2 | exact ⟨h2.1, by rw [← h2.2]; exact Below.refl _ _⟩
        obtain ⟨rfl, hb2⟩ := hb2
        have HX2 := hide (HX.out.trans (hb2.mono HX.out.size))
        clear hb2 h2
        go_wp2
        go_ret
        rw [HE.out]
        exact ⟨rfl, HX2.out⟩
    · have hkn : k = n := by omega
      have HE : Hid (decide (xss = yss) = true) := hide (decide_eq_true (listsI_ext (by rw [HLX.out, HLY.out]) (fun j hj => HN.out j (by rw [HLX.out] at hj; omega))))
      clear hkn
      go_wp2
      go_ret
      rw [HE.out]
      exact ⟨rfl, hnx⟩

set_option maxRecDepth 100000 in
set_option maxHeartbeats 2000000 in
theorem aequal_any (m : Int) (A : Option Addr) (n c : Nat) (xs : List Int) (B : Option Addr) (k d : Nat) (ys : List Int) (w : World) (ha : SL w A n c xs) (hb : SL w B k d ys) (hm : (Lit.int .i64 m).wf = true) :
    Calls Try.prog 11 #[.int .i64 m, .slice A n c, .slice B k d] w fun e w' => e = .returned (.tuple #[.bool (eqA m xs ys), .int .i64 (eqE m xs ys)]) ∧ Below w.heap.size w w' := by
  have HP := hide (aimages_any m A n c xs w ha hm)
  have HB := hide hb
  have HM := hide hm
  clear ha hb hm
  obtain ⟨fx, hfx⟩ : ∃ f, artE m xs = f := ⟨_, rfl⟩
  have HFX := hide hfx
  rw [hfx] at HP
  clear hfx
  by_cases h0 : fx = 0
  case neg =>
    have HE : Hid (eqE m xs ys = fx) := hide (by unfold eqE; rw [HFX.out, if_pos h0])
    have HV : Hid (eqA m xs ys = false) := hide (by unfold eqA; rw [HE.out, decide_eq_false h0]; rfl)
    have hne : (fx != 0) = true := by simpa using h0
    go_enter Try.func11, Try.ntmps11
    go_wp2_with fail
    refine HP.out.mono ?_
    rintro e w1 ⟨P, pn, pc, rfl, hp, hb1⟩
    have HB1 := hide hb1
    clear hp hb1
    go_wp2_with fail
    go_ret2
    rw [HE.out, HV.out]
    exact ⟨rfl, HB1.out⟩
  subst h0
  obtain ⟨fy, hfy⟩ : ∃ f, artE m ys = f := ⟨_, rfl⟩
  have HFY := hide hfy
  clear hfy
  go_enter Try.func11, Try.ntmps11
  go_wp2_with fail
  refine HP.out.mono ?_
  rintro e w1 ⟨P, pn, pc, rfl, hp, hb1⟩
  have HQ := hide (aimages_any m B k d ys w1 (HB.out.below hb1) HM.out)
  rw [HFY.out] at HQ
  have HB1 := hide hb1
  have HPP := hide hp
  clear hp hb1
  by_cases h0 : fy = 0
  case neg =>
    have HE : Hid (eqE m xs ys = fy) := hide (by unfold eqE; rw [HFX.out, if_neg (by simp), HFY.out])
    have HV : Hid (eqA m xs ys = false) := hide (by unfold eqA; rw [HE.out, decide_eq_false h0]; rfl)
    have hne : (fy != 0) = true := by simpa using h0
    go_wp2_with fail
    refine HQ.out.mono ?_
    rintro e w2 ⟨R, rn, rc, rfl, hr, hb2⟩
    have HB2 := hide (HB1.out.trans (hb2.mono HB1.out.size))
    clear hr hb2
    go_wp2_with fail
    go_ret2
    rw [HE.out, HV.out]
    exact ⟨rfl, HB2.out⟩
  subst h0
  have HE : Hid (eqE m xs ys = 0) := hide (by unfold eqE; rw [HFX.out, if_neg (by simp), HFY.out])
  have HV : Hid (eqA m xs ys = decide (artI m xs = artI m ys)) := hide (by
    unfold eqA artI
    rw [HE.out, HFX.out, HFY.out, if_pos rfl, if_pos rfl]
    simp)
  go_wp2_with fail
  refine HQ.out.mono ?_
  rintro e w2 ⟨R, rn, rc, rfl, hr, hb2⟩
  have HB2 := hide (HB1.out.trans (hb2.mono HB1.out.size))
  have HC := hide (aEqualFunc_any P R pn rn pc rc _ _ _ (HPP.out.below hb2).ill hr.ill)
  clear hr hb2
  go_wp2_with fail
  refine HC.out.mono ?_
  rintro e w3 ⟨rfl, hb3⟩
  have HB3 := hide (HB2.out.trans (hb3.mono HB2.out.size))
  clear hb3
  go_wp2_with fail
  go_ret2
  rw [HE.out, HV.out]
  exact ⟨rfl, HB3.out⟩

theorem artinC : ArtinC where
  images := aimages_any
  equal := aequal_any
end Go.Proofs.Ytihpmdfeonphpaa
/- Package braid keeps its contracts (those that a seat has functions for). -/
namespace Go.Proofs.Ytihpmdfeonphpaa
open Go.RowKit
theorem braidC : BraidC where
  check := fun m A n c xs w h hm => (bcheck_any m A n c xs w h hm).mono fun e w' ⟨h1, h2⟩ => ⟨h1, by rw [← h2]; exact Below.refl _ _⟩
  perm := bperm_any -- 15
end Go.Proofs.Ytihpmdfeonphpaa
/- freegroup.Check, reduced, inverse, checkBoth. -/
namespace Go.Proofs.Ytihpmdfeonphpaa
set_option linter.unusedVariables false
set_option linter.unusedSimpArgs false
open Go.RowKit

set_option maxHeartbeats 1000000 in
theorem fcheck_any (A : Option Addr) (n c : Nat) (xs : List Int) (w : World) (ha : IL w A n xs) :
    Calls Try.prog 51 #[.slice A n c] w fun e w' => e = .returned (.int .i64 (ffault xs)) ∧ w = w' := by
  have hl := ha.len
  have hns := ha.small
  have HA := hide ha
  have HL := hide hl
  by_cases h60 : 60 < n
  · have HF : Hid (ffault xs = 2) := hide (by unfold ffault; rw [if_pos (by omega)])
    clear ha hl
    go_enter Try.func51, Try.ntmps51
    go_wp2
    go_ret
    rw [HF.out]
    exact ⟨rfl, rfl⟩
  · have HF : Hid (ffault xs = if xs.all okL then 0 else 1) := hide (by unfold ffault; rw [if_neg (by omega)])
    clear ha hl
    go_enter Try.func51, Try.ntmps51
    go_wp2
    go_loop [10] (fun iv => ∃ k : Nat, k ≤ n ∧ iv = .int .i64 k ∧ Hid ((xs.take k).all okL = true)) (fun iv => n - (intOf iv).toNat)
    case atStart => exact ⟨0, Nat.zero_le _, rfl, by rw [List.take_zero]; exact rfl⟩
    case round =>
      obtain ⟨k, hk, rfl, HK⟩ := hrel
      by_cases hlt : k < n
      · obtain ⟨ad, rfl, hcl⟩ := HA.out.at_ hlt
        have HT := hide (all_take_succ (w := xs) (k := k) (by rw [HL.out]; exact hlt))
        have HM : Hid (xs.getD k 0 ∈ xs) := hide (by
          have hkl : k < xs.length := by rw [HL.out]; exact hlt
          rw [show xs.getD k 0 = xs[k] by simp [List.getD, List.getElem?_eq_getElem hkl]]
          exact List.getElem_mem _)
        obtain ⟨x, hx⟩ : ∃ x, xs.getD k 0 = x := ⟨_, rfl⟩
        rw [hx] at hcl HT HM
        clear hx
        by_cases hok : x ≠ 0 ∧ x ≤ 6 ∧ -6 ≤ x
        · have HN : Hid ((xs.take (k + 1)).all okL = true) := hide (by rw [HT.out, HK.out]; simp [okL, hok])
          obtain ⟨h0, h1, h2⟩ := hok
          have hb : (x == 0) = false := by simpa using h0
          clear h0
          go_wp2
          go_round
          case rel => exact ⟨k + 1, by omega, by go_num, HN.out⟩
          case measure => simp [intOf]; omega
        · have HN : Hid (xs.all okL = false) := hide (by
            rw [Bool.eq_false_iff]
            intro h
            have := List.all_eq_true.1 h x HM.out
            exact hok (by simpa [okL] using this))
          rw [HN.out] at HF
          by_cases h0 : x = 0
          · subst h0
            clear hok
            go_wp2
            go_ret
            rw [HF.out]
            exact ⟨rfl, rfl⟩
          · have hb : (x == 0) = false := by simpa using h0
            by_cases h1 : x < -6
            · clear hok h0
              go_wp2
              go_ret
              rw [HF.out]
              exact ⟨rfl, rfl⟩
            · have h2 : 6 < x := by
                rcases Int.lt_or_le 6 x with h | h
                · exact h
                · exact absurd ⟨h0, h, by omega⟩ hok
              clear hok h0
              go_wp2
              go_ret
              rw [HF.out]
              exact ⟨rfl, rfl⟩
      · have HE : Hid (xs.all okL = true) := hide (by
          have := HK.out
          rwa [List.take_of_length_le (by rw [HL.out]; omega)] at this)
        rw [HE.out] at HF
        go_wp2
        go_ret
        rw [HF.out]
        exact ⟨rfl, rfl⟩

/-- Both words. -/
theorem fboth_any (A B : Option Addr) (n c m d : Nat) (xs ys : List Int) (w : World) (ha : IL w A n xs) (hb : IL w B m ys) :
    Calls Try.prog 39 #[.slice A n c, .slice B m d] w fun e w' => e = .returned (.int .i64 (bothE xs ys)) ∧ w = w' := by
  have HA := hide (fcheck_any A n c xs w ha)
  have HB := hide (fcheck_any B m d ys w hb)
  have HE : Hid (bothE xs ys = if ffault xs = 0 then ffault ys else ffault xs) := rfl
  clear ha hb
  go_enter Try.func39, Try.ntmps39
  go_wp2_with fail
  refine HA.out.mono ?_
  rintro e w1 ⟨rfl, rfl⟩
  generalize ffault xs = ex at *
  clear HA
  by_cases h0 : ex = 0
  · subst h0
    go_wp2_with fail
    refine HB.out.mono ?_
    rintro e w1 ⟨rfl, rfl⟩
    go_wp2_with fail
    go_ret
    exact ⟨by rw [HE.out]; exact rfl, rfl⟩
  · have hb : (ex != 0) = true := by simpa using h0
    rw [if_neg h0] at HE
    clear h0
    go_wp2_with fail
    go_ret
    exact ⟨by rw [HE.out]; exact rfl, rfl⟩

end Go.Proofs.Ytihpmdfeonphpaa
/- freegroup.reduced. -/
namespace Go.Proofs.Ytihpmdfeonphpaa
set_option linter.unusedVariables false
set_option linter.unusedSimpArgs false
open Go.RowKit

set_option maxRecDepth 100000 in
set_option maxHeartbeats 2000000 in
theorem fred_any (A : Option Addr) (n c : Nat) (xs : List Int) (w : World) (ha : IL w A n xs) (hb : ∀ x ∈ xs, -1000 ≤ x ∧ x ≤ 1000) (hn : n ≤ 1000000) :
    Calls Try.prog 40 #[.slice A n c] w (GivesOwn w (nf xs)) := by
  have hl := ha.len
  have hns := ha.small
  have HA := hide ha
  have HL := hide hl
  have HB := hide hb
  obtain ⟨i0, hi0, hz0, hz1, hz2⟩ := info_parts int_info
  have HI0 := hide hi0
  have HZ0 := hide hz0
  have HZ1 := hide hz1
  have HZ2 := hide hz2
  clear ha hl hb
  go_enter Try.func40, Try.ntmps40
  go_wp2_with (at_make; refine wpList_make_own _ rfl _ _ 22 rfl w.heap.size 3 i0 (.int .i64 0) 1 Try.underlying22 hi0 hz0 hz1 .i64 .i64 _ n rfl rfl rfl (by rw [hz2]; omega) (by unfold maxLen; omega) (Nat.le_refl _) ?_; intro w1 hown1 hg1)
  have hB1 : Below w.heap.size w w1 := (Below.refl _ _).grown hg1 (Nat.le_refl _) (by intro k hk; cases hk)
  have hw1 : OwnI w1 w.heap.size (some ⟨w.heap.size, 0, none⟩) 0 n [] := ⟨hown1, by omega⟩
  clear hown1 hg1 hi0 hz0 hz1 hz2
  go_loopw [3, 12] (fun rv iv wr => ∃ (k m c2 : Nat) (R : Option Addr), rv = .slice R m c2 ∧ iv = .int .i64 k ∧ k ≤ n ∧ m ≤ k ∧ OwnI wr w.heap.size R m c2 ((xs.take k).foldl snc []) ∧ Below w.heap.size w wr) (fun _ iv _ => n - (intOf iv).toNat)
  case atStart => exact ⟨0, 0, n, _, rfl, rfl, Nat.zero_le _, Nat.le_refl _, hw1, hB1⟩
  case round =>
    clear hw1 hB1
    obtain ⟨k, m, c2, R, rfl, rfl, hk, hmk, ho, hb⟩ := hrel
    by_cases hlt : k < n
    · obtain ⟨ad, rfl, hcl⟩ := (HA.out.below hb).at_ hlt
      have hkl : k < xs.length := by rw [HL.out]; exact hlt
      have HT : Hid ((xs.take (k + 1)).foldl snc [] = snc ((xs.take k).foldl snc []) (xs.getD k 0)) := by
        rw [List.take_succ_eq_append_getElem hkl, List.foldl_append]
        simp [List.getD, List.getElem?_eq_getElem hkl]
        exact trivial
      have hx := HB.out (xs.getD k 0) (by rw [show xs.getD k 0 = xs[k] by simp [List.getD, List.getElem?_eq_getElem hkl]]; exact List.getElem_mem _)
      have hbl : ∀ y ∈ (xs.take k).foldl snc [], -1000 ≤ y ∧ y ≤ 1000 := fun y hy => by
        rcases foldl_snc_mem _ _ hy with h | h
        · simp at h
        · exact HB.out y (List.mem_of_mem_take h)
      generalize xs.getD k 0 = x at *
      generalize (xs.take k).foldl snc [] = L at *
      obtain ⟨L2, hL2⟩ : ∃ L2, (xs.take (k + 1)).foldl snc [] = L2 := ⟨_, rfl⟩
      rw [hL2] at HT
      have HL2 := hide hL2
      clear hL2
      have HO := hide ho
      have HB2 := hide hb
      have hll := ho.len
      by_cases h0 : m = 0
      · have HS : Hid (L2 = L ++ [x]) := hide (by rw [HT.out]; exact snc_push hll (.inl h0))
        have hg : decide ((0 : Int) < (m : Int)) = false := decide_eq_false (by omega)
        have hg2 : decide (0 < m) = false := decide_eq_false (by omega)
        clear ho hb hll hbl HT h0
        go_wp2_with (at_builtin; refine wpList_append_int _ rfl (.tmp 34) (.tmp 36) 22 rfl w.heap.size i0 Try.underlying22 HI0.out HZ0.out HZ1.out HZ2.out R m c2 L rfl (HO.out.alloc _) (some ⟨_, 0, none⟩) 1 1 [x] rfl (IL.lit _ [x] (by simp) rfl rfl) (by omega) (by have := HB2.out.size; simp; omega) ?_; intro A8 c8 w8 hap)
        have hN := hap.own
        rw [← HS.out] at hN
        have hb8 := (HB2.out.alloc HB2.out.size (.cells #[.int .i64 x] 3)).grown hap.grown (by have := HB2.out.size; simp; omega) (fun j hj => (HO.out.lt j (by rw [ownBlock_len R m (m + 1) c2 c2]; exact hj)).1)
        clear hap
        go_roundw
        case rel => exact ⟨k + 1, m + 1, c8, A8, by go_num, by go_num, by omega, by omega, by rw [HL2.out]; exact hN, hb8⟩
        case measure => simp [intOf]; omega
      · have h1 : 0 < m := by omega
        obtain ⟨g, rfl, hg1, hg2⟩ := ho.form h1
        have hc2 := ho.cell (show m - 1 < m by omega)
        have hmem : L.getD (m - 1) 0 ∈ L := by
          have : m - 1 < L.length := by omega
          rw [show L.getD (m - 1) 0 = L[m - 1] by simp [List.getD, List.getElem?_eq_getElem this]]
          exact List.getElem_mem _
        obtain ⟨hy0, hy1⟩ := hbl _ hmem
        have hcap := ho.cap
        have hp0 : (0 : Int) ≤ (m : Int) - 1 := by omega
        have hp1 : (m : Int) - 1 < (m : Int) := by omega
        have hp2 : ((m : Int) - 1).toNat = m - 1 := by omega
        have hp3 : (m : Int) - 1 ≤ (c2 : Int) := by omega
        have hwr : IntKind.i64.wrap ((m : Int) - 1) = (m : Int) - 1 := by rw [IntKind.wrap_i64]; omega
        have hg : decide ((0 : Int) < (m : Int)) = true := decide_eq_true (by omega)
        by_cases hxy : L.getD (m - 1) 0 = -x
        · have HS : Hid (L2 = L.take (m - 1)) := hide (by rw [HT.out]; exact snc_pop hll h1 hxy)
          have HN : Hid (OwnI wr w.heap.size (some ⟨g, 0, none⟩) (m - 1) c2 L2) := by
            rw [HS.out]
            exact ho.shrink (by omega) h1
          generalize L.getD (m - 1) 0 = y at *
          have hbe : (y == -x) = true := by simpa using hxy
          clear ho hb hll hbl HT hmem hxy
          go_wp2_with fail
          go_roundw
          case rel => exact ⟨k + 1, m - 1, c2, _, rfl, by go_num, by omega, by omega, by rw [HL2.out]; exact HN.out, HB2.out⟩
          case measure => simp [intOf]; omega
        · have HS : Hid (L2 = L ++ [x]) := hide (by rw [HT.out]; exact snc_push hll (.inr hxy))
          generalize L.getD (m - 1) 0 = y at *
          have hbe : (y == -x) = false := by simpa using hxy
          clear ho hb hll hbl HT hmem hxy
          go_wp2_with (at_builtin; refine wpList_append_int _ rfl (.tmp 34) (.tmp 36) 22 rfl w.heap.size i0 Try.underlying22 HI0.out HZ0.out HZ1.out HZ2.out (some ⟨g, 0, none⟩) m c2 L rfl (HO.out.alloc _) (some ⟨_, 0, none⟩) 1 1 [x] rfl (IL.lit _ [x] (by simp) rfl rfl) (by omega) (by have := HB2.out.size; simp; omega) ?_; intro A8 c8 w8 hap)
          have hN := hap.own
          rw [← HS.out] at hN
          have hb8 := (HB2.out.alloc HB2.out.size (.cells #[.int .i64 x] 3)).grown hap.grown (by have := HB2.out.size; simp; omega) (fun j hj => (HO.out.lt j (by rw [ownBlock_len (some ⟨g, 0, none⟩) m (m + 1) c2 c2]; exact hj)).1)
          clear hap
          go_roundw
          case rel => exact ⟨k + 1, m + 1, c8, A8, by go_num, by go_num, by omega, by omega, by rw [HL2.out]; exact hN, hb8⟩
          case measure => simp [intOf]; omega
    · have HE : Hid (OwnI wr w.heap.size R m c2 (nf xs)) := by
        have h := ho
        rw [List.take_of_length_le (by rw [HL.out]; omega), foldl_snc] at h
        exact h
      have HB2 := hide hb
      clear ho hb
      go_wp2_with fail
      go_ret
      exact ⟨R, m, c2, rfl, HE.out, HB2.out⟩
end Go.Proofs.Ytihpmdfeonphpaa
