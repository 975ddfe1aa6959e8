/- timblaw1.PolyDets, for a package polymatrix that answers as it should. (Written by tools/gen_pdets.py.) -/
import Derived.Test.YtgmjighgncpefaaPmC
import Derived.Test.YtgmjighgncpefaaPdX
import Derived.Test.YtgmjighgncpefaaTpf
import Derived.Test.YtgmjighgncpefaaSameY
namespace Go.Proofs.Ytgmjighgncpefaa
set_option linter.unusedVariables false
set_option linter.unusedSimpArgs false
open Go.RowKit

theorem terms_info : (Try.prog.info? 35).map (fun i => (i.zero, i.size, i.bytes)) = some (some (.map none), 1, 8) := by kernel_rfl
theorem termss_info : (Try.prog.info? 33).map (fun i => (i.zero, i.size, i.bytes)) = some (some (.slice none 0 0), 1, 24) := by kernel_rfl
def mapR (ps : List Po) : List LP := ps.map fun p => LP.of p.1 p.2
def mapT (pss : List (List Po)) : List (List LP) := pss.map mapR
theorem mapT_get {pss : List (List Po)} {i j : Nat} (hi : i < pss.length) (hj : j < (pss.getD i []).length) : mtx (mapT pss) i j = mP pss i j := by
  unfold mtx mapT mP
  have e1 : (pss.map mapR).getD i [] = mapR (pss.getD i []) := by
    rw [getD_of_lt [] (by rw [List.length_map]; exact hi), getD_of_lt [] hi, List.getElem_map]
  rw [e1]
  unfold mapR
  rw [getD_of_lt 0 (by rw [List.length_map]; exact hj), getD_of_lt (0, []) hj, List.getElem_map]
theorem mapT_row {pss : List (List Po)} (h : sqE pss = 0) {i : Nat} (hi : i < pss.length) : (pss.getD i []).length = pss.length := by
  rw [getD_of_lt [] hi]
  exact ((sqE_zero h).2 _ (List.getElem_mem _)).1
theorem mapT_sq {pss : List (List Po)} {n : Nat} (h : sqE pss = 0) (hn : pss.length = n) : ∀ i, i < n → ((mapT pss).getD i []).length = n := fun i hi => by
  subst hn
  unfold mapT
  rw [getD_of_lt [] (by rw [List.length_map]; exact hi), List.getElem_map]
  unfold mapR
  rw [List.length_map, ← getD_of_lt [] hi]
  exact mapT_row h hi
theorem mapT_eq {pss : List (List Po)} {n : Nat} (h : sqE pss = 0) (hn : pss.length = n) : ∀ i, i < n → ∀ j, j < n → mtx (mapT pss) i j = mP pss i j := fun i hi j hj => by
  subst hn
  exact mapT_get hi (by rw [mapT_row h hi]; exact hj)
theorem mapT_sm {pss : List (List Po)} {n : Nat} (h : sqE pss = 0) (hn : pss.length = n) : SmP n (mtx (mapT pss)) := by
  refine ⟨fun i hi j hj => ?_, fun i hi j hj => ?_⟩
  · rw [mapT_eq h hn i hi j hj]
    obtain ⟨p, hp, h2⟩ := mP_entry h (i := i) (j := j) (by omega) (by omega)
    unfold mP
    rw [hp]
    exact (poly_n1 h2).1
  · rw [mapT_eq h hn i hi j hj]
    obtain ⟨p, hp, h2⟩ := mP_entry h (i := i) (j := j) (by omega) (by omega)
    unfold mP
    rw [hp]
    exact (poly_n1 h2).2
theorem mapT_det {pss : List (List Po)} {n : Nat} (h : sqE pss = 0) (hn : pss.length = n) : detR n (mtx (mapT pss)) = detR n (mP pss) := detR_congr (mapT_eq h hn)
theorem SPo.lit2 {w : World} {g : Nat} {t : TypeId} {l1 l2 : Int} {B1 B2 : Option Addr} {m1 d1 m2 d2 : Nat} {xs ys : List Int} (h : Blk w g t #[.int .i64 l1, .slice B1 m1 d1, .int .i64 l2, .slice B2 m2 d2]) (h1 : SL w B1 m1 d1 xs) (h2 : SL w B2 m2 d2 ys) (w1 : (Lit.int .i64 l1).wf = true) (w2 : (Lit.int .i64 l2).wf = true) :
    SPo w (some ⟨g, 0, none⟩) 2 2 [(l1, xs), (l2, ys)] := by
  refine ⟨rfl, by omega, fun e => (by cases e), Nat.le_refl _, fun _ => ⟨_, rfl, h.lt, fun j hj => ?_⟩⟩
  have hc0 := h.cell 0
  have hc1 := h.cell 1
  have hc2 := h.cell 2
  have hc3 := h.cell 3
  simp at hc0 hc1 hc2 hc3
  rcases Nat.lt_or_ge j 1 with h0 | h0
  · obtain rfl : j = 0 := by omega
    exact ⟨B1, m1, d1, hc0, hc1, h1, w1⟩
  · obtain rfl : j = 1 := by omega
    exact ⟨B2, m2, d2, hc2, hc3, h2, w2⟩
theorem SPP.lit2 {w : World} {g : Nat} {t : TypeId} {B1 B2 : Option Addr} {m1 d1 m2 d2 : Nat} {xs ys : List Po} (h : Blk w g t #[.slice B1 m1 d1, .slice B2 m2 d2]) (h1 : SPo w B1 m1 d1 xs) (h2 : SPo w B2 m2 d2 ys) :
    SPP w (some ⟨g, 0, none⟩) 2 2 [xs, ys] := by
  refine ⟨rfl, by omega, fun e => (by cases e), Nat.le_refl _, fun _ => ⟨_, rfl, h.lt, fun j hj => ?_⟩⟩
  have hc0 := h.cell 0
  have hc1 := h.cell 1
  simp at hc0 hc1
  rcases Nat.lt_or_ge j 1 with h0 | h0
  · obtain rfl : j = 0 := by omega
    exact ⟨B1, m1, d1, hc0, h1⟩
  · obtain rfl : j = 1 := by omega
    exact ⟨B2, m2, d2, hc1, h2⟩

set_option maxRecDepth 100000 in
set_option maxHeartbeats 8000000 in
theorem polyDets_any (F : PmC) (A : Option Addr) (n c : Nat) (pss : List (List Po)) (w : World) (ha : SPP w A n c pss) :
    Calls Try.prog 3 #[.slice A n c] w fun e w' => e = .returned (.bool true) ∧ Below w.heap.size w w' := by
  have HF := hide F
  have HA := hide ha
  have HW := hide (Below.refl w.heap.size w)
  have HL := hide ha.len
  obtain ⟨sx, hsx⟩ : ∃ q, sqE pss = q := ⟨_, rfl⟩
  obtain ⟨⟨er, lr, cr⟩, hr⟩ : ∃ q, detPR pss = q := ⟨_, rfl⟩
  have HSX := hide hsx
  have HR := hide hr
  clear F ha hsx hr
  go_enter Try.func3, Try.ntmps3
  go_upto_region 1 with fail
  go_wp2_with fail
  refine (HF.out.det A n c pss _ HA.out).mono ?_
  rintro e w1 ⟨P, pn, pc, rfl, hs, hnw, hb⟩
  replace HA := hide (HA.out.below hb)
  replace HW := hide (HW.out.trans (hb.mono HW.out.size))
  rw [HR.out] at hs ⊢
  dsimp only at hs ⊢
  have SP := hide hs
  clear hb hs hnw
  go_upto_region 2 with fail
  have hb : Below w1.heap.size w1 (w1.alloc (.cells #[.int .i64 lr, .slice P pn pc] 25)) := (Below.refl _ _).alloc (Nat.le_refl _) _
  have B3 := hide (Blk.new w1 25 #[.int .i64 lr, .slice P pn pc])
  replace HA := hide (HA.out.below hb)
  replace HW := hide (HW.out.trans (hb.mono HW.out.size))
  replace SP := hide (SP.out.below hb)
  obtain ⟨b3, hq⟩ : ∃ q, w1.heap.size = q := ⟨_, rfl⟩
  obtain ⟨w2, hw⟩ : ∃ x, w1.alloc (.cells #[.int .i64 lr, .slice P pn pc] 25) = x := ⟨_, rfl⟩
  rw [hw] at B3 HA HW SP ⊢
  rw [hq] at B3  ⊢
  clear hb hw hq
  go_wp2_with fail
  refine (squareFault_any A n c pss _ HA.out).mono ?_
  rintro e w3 ⟨rfl, hb⟩
  replace HA := hide (HA.out.below hb)
  replace HW := hide (HW.out.trans (hb.mono HW.out.size))
  replace SP := hide (SP.out.below hb)
  replace B3 := hide (B3.out.below hb B3.out.lt)
  rw [HSX.out]
  clear hb
  go_upto_region 4 with fail
  obtain ⟨c4, hsz⟩ : ∃ q, w3.heap.size = q := ⟨_, rfl⟩
  rw [hsz] at  ⊢
  have hb : Below w3.heap.size w3 (w3.alloc (.cells #[.int .i64 1] 3)) := (Below.refl _ _).alloc (Nat.le_refl _) _
  have S1 : Hid (SL (w3.alloc (.cells #[.int .i64 1] 3)) (some ⟨w3.heap.size, 0, none⟩) 1 1 [1]) := hide (SL.lit w3 [1] (by decide) rfl rfl)
  replace HA := hide (HA.out.below hb)
  replace HW := hide (HW.out.trans (hb.mono HW.out.size))
  replace SP := hide (SP.out.below hb)
  replace B3 := hide (B3.out.below hb B3.out.lt)
  rw [hsz] at S1
  obtain ⟨w4, hw⟩ : ∃ x, w3.alloc (.cells #[.int .i64 1] 3) = x := ⟨_, rfl⟩
  replace hsz : w4.heap.size = c4 + 1 := by rw [← hw, World.size_alloc, hsz]
  rw [hw] at S1 HA HW SP B3 ⊢
  clear hb hw
  have hb : Below w4.heap.size w4 (w4.alloc (.cells #[.int .i64 1] 3)) := (Below.refl _ _).alloc (Nat.le_refl _) _
  have S2 : Hid (SL (w4.alloc (.cells #[.int .i64 1] 3)) (some ⟨w4.heap.size, 0, none⟩) 1 1 [1]) := hide (SL.lit w4 [1] (by decide) rfl rfl)
  replace HA := hide (HA.out.below hb)
  replace HW := hide (HW.out.trans (hb.mono HW.out.size))
  replace SP := hide (SP.out.below hb)
  replace B3 := hide (B3.out.below hb B3.out.lt)
  replace S1 := hide (S1.out.below hb)
  rw [hsz] at S2
  obtain ⟨w5, hw⟩ : ∃ x, w4.alloc (.cells #[.int .i64 1] 3) = x := ⟨_, rfl⟩
  replace hsz : w5.heap.size = c4 + 1 + 1 := by rw [← hw, World.size_alloc, hsz]
  rw [hw] at S2 HA HW SP B3 S1 ⊢
  clear hb hw
  have hb : Below w5.heap.size w5 (w5.alloc (.cells #[.int .i64 1, .slice (some ⟨c4, 0, none⟩) 1 1] 25)) := (Below.refl _ _).alloc (Nat.le_refl _) _
  have B6 := hide (Blk.new w5 25 #[.int .i64 1, .slice (some ⟨c4, 0, none⟩) 1 1])
  replace HA := hide (HA.out.below hb)
  replace HW := hide (HW.out.trans (hb.mono HW.out.size))
  replace SP := hide (SP.out.below hb)
  replace B3 := hide (B3.out.below hb B3.out.lt)
  replace S1 := hide (S1.out.below hb)
  replace S2 := hide (S2.out.below hb)
  rw [hsz] at B6
  obtain ⟨w6, hw⟩ : ∃ x, w5.alloc (.cells #[.int .i64 1, .slice (some ⟨c4, 0, none⟩) 1 1] 25) = x := ⟨_, rfl⟩
  replace hsz : w6.heap.size = c4 + 1 + 1 + 1 := by rw [← hw, World.size_alloc, hsz]
  rw [hw] at B6 HA HW SP B3 S1 S2 ⊢
  clear hb hw
  have hb : Below w6.heap.size w6 (w6.alloc (.cells #[.int .i64 0, .slice (some ⟨c4 + 1, 0, none⟩) 1 1] 25)) := (Below.refl _ _).alloc (Nat.le_refl _) _
  have B7 := hide (Blk.new w6 25 #[.int .i64 0, .slice (some ⟨c4 + 1, 0, none⟩) 1 1])
  replace HA := hide (HA.out.below hb)
  replace HW := hide (HW.out.trans (hb.mono HW.out.size))
  replace SP := hide (SP.out.below hb)
  replace B3 := hide (B3.out.below hb B3.out.lt)
  replace S1 := hide (S1.out.below hb)
  replace S2 := hide (S2.out.below hb)
  replace B6 := hide (B6.out.below hb B6.out.lt)
  rw [hsz] at B7
  obtain ⟨w7, hw⟩ : ∃ x, w6.alloc (.cells #[.int .i64 0, .slice (some ⟨c4 + 1, 0, none⟩) 1 1] 25) = x := ⟨_, rfl⟩
  replace hsz : w7.heap.size = c4 + 1 + 1 + 1 + 1 := by rw [← hw, World.size_alloc, hsz]
  rw [hw] at B7 HA HW SP B3 S1 S2 B6 ⊢
  clear hb hw
  clear hsz
  have x0 := B6.out.cell 0
  have x1 := B6.out.cell 1
  simp at x0 x1
  have y0 := B7.out.cell 0
  have y1 := B7.out.cell 1
  simp at y0 y1
  have u0 := (B6.out.alloc (.cells #[.int .i64 1, .slice (some ⟨c4, 0, none⟩) 1 1, .int .i64 0, .slice (some ⟨c4 + 1, 0, none⟩) 1 1] 25)).cell 0
  have u1 := (B6.out.alloc (.cells #[.int .i64 1, .slice (some ⟨c4, 0, none⟩) 1 1, .int .i64 0, .slice (some ⟨c4 + 1, 0, none⟩) 1 1] 25)).cell 1
  have v0 := (B7.out.alloc (.cells #[.int .i64 1, .slice (some ⟨c4, 0, none⟩) 1 1, .int .i64 0, .slice (some ⟨c4 + 1, 0, none⟩) 1 1] 25)).cell 0
  have v1 := (B7.out.alloc (.cells #[.int .i64 1, .slice (some ⟨c4, 0, none⟩) 1 1, .int .i64 0, .slice (some ⟨c4 + 1, 0, none⟩) 1 1] 25)).cell 1
  simp at u0 u1 v0 v1
  go_wp2_with fail
  clear x0 x1 y0 y1 u0 u1 v0 v1
  obtain ⟨d4, hsz⟩ : ∃ q, w7.heap.size = q := ⟨_, rfl⟩
  rw [hsz] at  ⊢
  have hb : Below w7.heap.size w7 (w7.alloc (.cells #[.int .i64 1, .slice (some ⟨c4, 0, none⟩) 1 1, .int .i64 0, .slice (some ⟨c4 + 1, 0, none⟩) 1 1] 25)) := (Below.refl _ _).alloc (Nat.le_refl _) _
  have R1 := hide (Blk.new w7 25 #[.int .i64 1, .slice (some ⟨c4, 0, none⟩) 1 1, .int .i64 0, .slice (some ⟨c4 + 1, 0, none⟩) 1 1])
  replace HA := hide (HA.out.below hb)
  replace HW := hide (HW.out.trans (hb.mono HW.out.size))
  replace SP := hide (SP.out.below hb)
  replace B3 := hide (B3.out.below hb B3.out.lt)
  replace S1 := hide (S1.out.below hb)
  replace S2 := hide (S2.out.below hb)
  replace B6 := hide (B6.out.below hb B6.out.lt)
  replace B7 := hide (B7.out.below hb B7.out.lt)
  rw [hsz] at R1
  obtain ⟨w8, hw⟩ : ∃ x, w7.alloc (.cells #[.int .i64 1, .slice (some ⟨c4, 0, none⟩) 1 1, .int .i64 0, .slice (some ⟨c4 + 1, 0, none⟩) 1 1] 25) = x := ⟨_, rfl⟩
  replace hsz : w8.heap.size = d4 + 1 := by rw [← hw, World.size_alloc, hsz]
  rw [hw] at R1 HA HW SP B3 S1 S2 B6 B7 ⊢
  clear hb hw
  have hb : Below w8.heap.size w8 (w8.alloc (.cells #[.int .i64 0, .slice (some ⟨c4 + 1, 0, none⟩) 1 1, .int .i64 1, .slice (some ⟨c4, 0, none⟩) 1 1] 25)) := (Below.refl _ _).alloc (Nat.le_refl _) _
  have R2 := hide (Blk.new w8 25 #[.int .i64 0, .slice (some ⟨c4 + 1, 0, none⟩) 1 1, .int .i64 1, .slice (some ⟨c4, 0, none⟩) 1 1])
  replace HA := hide (HA.out.below hb)
  replace HW := hide (HW.out.trans (hb.mono HW.out.size))
  replace SP := hide (SP.out.below hb)
  replace B3 := hide (B3.out.below hb B3.out.lt)
  replace S1 := hide (S1.out.below hb)
  replace S2 := hide (S2.out.below hb)
  replace B6 := hide (B6.out.below hb B6.out.lt)
  replace B7 := hide (B7.out.below hb B7.out.lt)
  replace R1 := hide (R1.out.below hb R1.out.lt)
  rw [hsz] at R2
  obtain ⟨w9, hw⟩ : ∃ x, w8.alloc (.cells #[.int .i64 0, .slice (some ⟨c4 + 1, 0, none⟩) 1 1, .int .i64 1, .slice (some ⟨c4, 0, none⟩) 1 1] 25) = x := ⟨_, rfl⟩
  replace hsz : w9.heap.size = d4 + 1 + 1 := by rw [← hw, World.size_alloc, hsz]
  rw [hw] at R2 HA HW SP B3 S1 S2 B6 B7 R1 ⊢
  clear hb hw
  have hb : Below w9.heap.size w9 (w9.alloc (.cells #[.slice (some ⟨d4, 0, none⟩) 2 2, .slice (some ⟨d4 + 1, 0, none⟩) 2 2] 30)) := (Below.refl _ _).alloc (Nat.le_refl _) _
  have R3 := hide (Blk.new w9 30 #[.slice (some ⟨d4, 0, none⟩) 2 2, .slice (some ⟨d4 + 1, 0, none⟩) 2 2])
  replace HA := hide (HA.out.below hb)
  replace HW := hide (HW.out.trans (hb.mono HW.out.size))
  replace SP := hide (SP.out.below hb)
  replace B3 := hide (B3.out.below hb B3.out.lt)
  replace S1 := hide (S1.out.below hb)
  replace S2 := hide (S2.out.below hb)
  replace B6 := hide (B6.out.below hb B6.out.lt)
  replace B7 := hide (B7.out.below hb B7.out.lt)
  replace R1 := hide (R1.out.below hb R1.out.lt)
  replace R2 := hide (R2.out.below hb R2.out.lt)
  rw [hsz] at R3
  obtain ⟨w10, hw⟩ : ∃ x, w9.alloc (.cells #[.slice (some ⟨d4, 0, none⟩) 2 2, .slice (some ⟨d4 + 1, 0, none⟩) 2 2] 30) = x := ⟨_, rfl⟩
  replace hsz : w10.heap.size = d4 + 1 + 1 + 1 := by rw [← hw, World.size_alloc, hsz]
  rw [hw] at R3 HA HW SP B3 S1 S2 B6 B7 R1 R2 ⊢
  clear hb hw
  clear hsz
  have hspp := SPP.lit2 R3.out (SPo.lit2 R1.out S1.out S2.out (by decide) (by decide)) (SPo.lit2 R2.out S2.out S1.out (by decide) (by decide))
  clear S1 S2 B6 B7 R1 R2 R3
  refine (HF.out.det _ 2 2 _ _ hspp).mono ?_
  rintro e w11 ⟨O, on, oc, rfl, hs, hnw, hb⟩
  replace HA := hide (HA.out.below hb)
  replace HW := hide (HW.out.trans (hb.mono HW.out.size))
  replace SP := hide (SP.out.below hb)
  replace B3 := hide (B3.out.below hb B3.out.lt)
  rw [det_t11t] at hs ⊢
  dsimp only at hs ⊢
  have SO := hide hs
  clear hb hs hnw hspp
  go_upto_region 5 with fail
  have hb : Below w11.heap.size w11 (w11.alloc (.cells #[.int .i64 0, .slice O on oc] 25)) := (Below.refl _ _).alloc (Nat.le_refl _) _
  have B8 := hide (Blk.new w11 25 #[.int .i64 0, .slice O on oc])
  replace HA := hide (HA.out.below hb)
  replace HW := hide (HW.out.trans (hb.mono HW.out.size))
  replace SP := hide (SP.out.below hb)
  replace B3 := hide (B3.out.below hb B3.out.lt)
  replace SO := hide (SO.out.below hb)
  obtain ⟨b8, hq⟩ : ∃ q, w11.heap.size = q := ⟨_, rfl⟩
  obtain ⟨w12, hw⟩ : ∃ x, w11.alloc (.cells #[.int .i64 0, .slice O on oc] 25) = x := ⟨_, rfl⟩
  rw [hw] at B8 HA HW SP B3 SO ⊢
  rw [hq] at B8  ⊢
  clear hb hw hq
  have hss : (sx != sx) = false := by simp
  go_wp2_with fail
  refine (HF.out.check A n c pss _ HA.out).mono ?_
  rintro e w13 ⟨rfl, hb⟩
  replace HA := hide (HA.out.below hb)
  replace HW := hide (HW.out.trans (hb.mono HW.out.size))
  replace SP := hide (SP.out.below hb)
  replace B3 := hide (B3.out.below hb B3.out.lt)
  replace SO := hide (SO.out.below hb)
  replace B8 := hide (B8.out.below hb B8.out.lt)
  rw [HSX.out]
  clear hb
  have z0 := B8.out.cell 0
  have z1 := B8.out.cell 1
  simp at z0 z1
  go_wp2_with fail
  clear z0 z1
  obtain ⟨l5, hsz⟩ : ∃ q, w13.heap.size = q := ⟨_, rfl⟩
  rw [hsz] at  ⊢
  have hb : Below w13.heap.size w13 (w13.alloc (.cells #[.int .i64 (-1), .int .i64 0, .int .i64 1] 3)) := (Below.refl _ _).alloc (Nat.le_refl _) _
  have S5 : Hid (SL (w13.alloc (.cells #[.int .i64 (-1), .int .i64 0, .int .i64 1] 3)) (some ⟨w13.heap.size, 0, none⟩) 3 3 [-1, 0, 1]) := hide (SL.lit w13 [-1, 0, 1] (by decide) rfl rfl)
  replace HA := hide (HA.out.below hb)
  replace HW := hide (HW.out.trans (hb.mono HW.out.size))
  replace SP := hide (SP.out.below hb)
  replace B3 := hide (B3.out.below hb B3.out.lt)
  replace SO := hide (SO.out.below hb)
  replace B8 := hide (B8.out.below hb B8.out.lt)
  rw [hsz] at S5
  obtain ⟨w14, hw⟩ : ∃ x, w13.alloc (.cells #[.int .i64 (-1), .int .i64 0, .int .i64 1] 3) = x := ⟨_, rfl⟩
  replace hsz : w14.heap.size = l5 + 1 := by rw [← hw, World.size_alloc, hsz]
  rw [hw] at S5 HA HW SP B3 SO B8 ⊢
  clear hb hw
  clear hsz
  refine (same_y 0 [-1, 0, 1] _ O on oc _ 3 3 SO.out S5.out).mono ?_
  rintro e w15 ⟨rfl, hb⟩
  replace HA := hide (HA.out.below hb)
  replace HW := hide (HW.out.trans (hb.mono HW.out.size))
  replace SP := hide (SP.out.below hb)
  replace B3 := hide (B3.out.below hb B3.out.lt)
  replace SO := hide (SO.out.below hb)
  replace B8 := hide (B8.out.below hb B8.out.lt)
  replace S5 := hide (S5.out.below hb)
  clear hb
  clear SO S5
  go_upto_region 8 with fail
  have hlt3 := B3.out.lt
  have hwlt := HW.out.size
  have hpi := SP.out.inside
  have hb : Below w15.heap.size w15 (w15.alloc (.cells #[.int .i64 0, .slice none 0 0] 25)) := (Below.refl _ _).alloc (Nat.le_refl _) _
  have B10 := hide (Blk.new w15 25 #[.int .i64 0, .slice none 0 0])
  replace HA := hide (HA.out.below hb)
  replace HW := hide (HW.out.trans (hb.mono HW.out.size))
  replace SP := hide (SP.out.below hb)
  replace B3 := hide (B3.out.below hb B3.out.lt)
  replace B8 := hide (B8.out.below hb B8.out.lt)
  obtain ⟨b10, hq⟩ : ∃ q, w15.heap.size = q := ⟨_, rfl⟩
  obtain ⟨w16, hw⟩ : ∃ x, w15.alloc (.cells #[.int .i64 0, .slice none 0 0] 25) = x := ⟨_, rfl⟩
  rw [hw] at B10 HA HW SP B3 B8 ⊢
  rw [hq] at B10 hlt3 hwlt hpi ⊢
  clear hb hw hq
  have HLT3 := hide hlt3
  have HWLT := hide hwlt
  have HPI := hide hpi
  clear hlt3 hwlt hpi
  clear hss
  by_cases h0 : sx = 0
  case neg =>
    have hb0 : (sx == 0) = false := by simpa using h0
    have hr2 : er = sx ∧ lr = 0 ∧ cr = [] := by have h := HR.out; unfold detPR at h; rw [HSX.out, if_neg h0] at h; simp only [Prod.mk.injEq] at h; exact ⟨h.1.symm, h.2.1.symm, h.2.2.symm⟩
    obtain ⟨rfl, rfl, rfl⟩ := hr2
    have hee : (er == er) = true := by simp
    clear h0
    have x0 := B3.out.cell 0
    have x1 := B3.out.cell 1
    simp at x0 x1
    have y0 := B10.out.cell 0
    have y1 := B10.out.cell 1
    simp at y0 y1
    go_wp2_with fail
    refine (same_y 0 [] _ P pn pc none 0 0 SP.out (SL.nil_ _)).mono ?_
    rintro e w17 ⟨rfl, hb⟩
    replace HA := hide (HA.out.below hb)
    replace HW := hide (HW.out.trans (hb.mono HW.out.size))
    replace SP := hide (SP.out.below hb)
    replace B3 := hide (B3.out.below hb B3.out.lt)
    replace B8 := hide (B8.out.below hb B8.out.lt)
    replace B10 := hide (B10.out.below hb B10.out.lt)
    clear hb
    go_wp2_with fail
    go_ret
    exact ⟨rfl, HW.out⟩
  subst h0
  have hr2 : (er, lr, cr) = LP.fit (detR n (mP pss)) := by have h := HR.out; unfold detPR at h; rw [HSX.out, if_pos rfl, HL.out] at h; exact h.symm
  have HR2 := hide hr2
  clear hr2 HR
  obtain ⟨i0, hi0, hz0, hz1, hz2⟩ := info_parts terms_info
  obtain ⟨i1, hi1, hy0, hy1, hy2⟩ := info_parts termss_info
  have HI0 := hide hi0
  have HZ0 := hide hz0
  have HZ1 := hide hz1
  have HZ2 := hide hz2
  have HI1 := hide hi1
  have HY0 := hide hy0
  have HY1 := hide hy1
  have HY2 := hide hy2
  clear hi0 hz0 hz1 hz2 hi1 hy0 hy1 hy2
  have hn4 : n ≤ 4 := by have := (sqE_zero HSX.out).1; have := HL.out; omega
  go_wp2_with fail
  go_loopw [11, 59] (fun mv iv wr => ∃ (k ac : Nat) (B : Option Addr) (vs : List Value), iv = .int .i64 k ∧ k ≤ n ∧ mv = .slice B k ac ∧ Hid (Bld (fun b => w16.heap.size ≤ b) (QS (QT 40) 1) 33 1 w16 wr B k ac vs (mapT (pss.take k)))) (fun _ iv _ => n - (intOf iv).toNat)
  case atStart => exact ⟨0, 0, none, [], rfl, Nat.zero_le _, rfl, by rw [List.take_zero]; exact hide (Bld.start _ _ _ _ _)⟩
  case round =>
    obtain ⟨k, ac, B, vs, rfl, hk, rfl, HO⟩ := hrel
    have HWr := hide (HW.out.trans (HO.out.below.mono HW.out.size))
    by_cases hlt : k < n
    · obtain ⟨ad, R, rm, rd, rfl, hcl, hsr⟩ := (HA.out.below HO.out.below).at_ hlt
      have hkl : k < pss.length := by rw [HL.out]; exact hlt
      have HTK : Hid (mapT (pss.take (k + 1)) = mapT (pss.take k) ++ [mapR (pss.getD k [])]) := hide (by rw [List.take_succ_eq_append_getElem hkl]; unfold mapT; rw [List.map_append, getD_of_lt [] hkl]; rfl)
      have hrow := (sqE_zero HSX.out).2 (pss.getD k []) (by rw [getD_of_lt [] hkl]; exact List.getElem_mem _)
      have hrm : rm = n := by have h1 := hsr.len; have h2 := hrow.1; have := HL.out; omega
      subst hrm
      have HSR := hide hsr
      have HPE := hide hrow.2
      clear hsr hrow hkl
      generalize pss.getD k [] = ps at *
      rename World => wo
      have hlt2 := hlt
      have HLT := hide hlt
      have HK := hide hk
      clear hlt hk
      have hrm4 := hn4
      go_wp2_with fail
      clear hcl
      go_loopw [14, 65] (fun rv jv wx => ∃ (j rc : Nat) (C : Option Addr) (us : List Value), jv = .int .i64 j ∧ j ≤ rm ∧ rv = .slice C j rc ∧ Hid (Bld (fun b => wo.heap.size ≤ b) (QT 40) 35 1 wo wx C j rc us (mapR (ps.take j)))) (fun _ jv _ => rm - (intOf jv).toNat)
      case atStart => exact ⟨0, 0, none, [], rfl, Nat.zero_le _, rfl, by rw [List.take_zero]; exact hide (Bld.start _ _ _ _ _)⟩
      case round =>
        obtain ⟨j, rc, C, us, rfl, hj, rfl, HI⟩ := hrel
        by_cases hjn : j < rm
        · obtain ⟨ad2, D, dm, dd, rfl, hq0, hq1, hs, hwf⟩ := (HSR.out.below HI.out.below).at_ hjn
          have hjl : j < ps.length := by rw [HSR.out.len]; exact hjn
          have HTJ : Hid (mapR (ps.take (j + 1)) = mapR (ps.take j) ++ [LP.of (ps.getD j (0, [])).1 (ps.getD j (0, [])).2]) := hide (by rw [List.take_succ_eq_append_getElem hjl]; unfold mapR; rw [List.map_append, getD_of_lt (0, []) hjl]; rfl)
          have hpe := polyE_zero (HPE.out (ps.getD j (0, [])) (by rw [getD_of_lt (0, []) hjl]; exact List.getElem_mem _))
          obtain ⟨lo, xs, hp⟩ : ∃ lo xs, ps.getD j (0, []) = (lo, xs) := ⟨_, _, rfl⟩
          rw [hp] at hq0 hs HTJ hwf hpe
          dsimp only at hq0 hs HTJ hwf hpe
          have HSX2 := hide hs
          have hb1 : lo.natAbs + dm ≤ 40 := by have := hs.il.len; omega
          clear hp hs hwf hpe hjl
          go_upto_region 17 with fail
          have hb : Below wr.heap.size wr (wr.alloc (.cells #[.int .i64 lo, .slice D dm dd] 25)) := (Below.refl _ _).alloc (Nat.le_refl _) _
          have BP := hide (Blk.new wr 25 #[.int .i64 lo, .slice D dm dd])
          replace HSX2 := hide (HSX2.out.below hb)
          replace HI := hide (HI.out.to (QT_ok 40) hb)
          obtain ⟨b6, hq⟩ : ∃ q, wr.heap.size = q := ⟨_, rfl⟩
          obtain ⟨x1, hw⟩ : ∃ q, wr.alloc (.cells #[.int .i64 lo, .slice D dm dd] 25) = q := ⟨_, rfl⟩
          rw [hw] at BP HSX2 HI ⊢
          rw [hq] at BP ⊢
          clear hb hq hw hq0 hq1
          have hz0 := BP.out.cell 0
          have hz1 := BP.out.cell 1
          simp at hz0 hz1
          go_wp2_with fail
          refine (split_anyE 40 lo D dm dd xs _ HSX2.out hb1 (by omega)).mono ?_
          rintro e x2 h9
          obtain ⟨bm, rfl, hbm, htv, hb⟩ := h9.v
          have hsz1 := HI.out.below.size
          replace HI := hide (HI.out.to (QT_ok 40) hb)
          have hsz2 := HI.out.below.size
          have HTV := hide htv
          have hbm2 : wo.heap.size ≤ bm := by omega
          clear hb htv hz0 hz1 HSX2 BP h9
          have hba : Below x2.heap.size x2 (x2.alloc (.cells #[.map (some bm)] 35)) := (Below.refl _ _).alloc (Nat.le_refl _) _
          have HI3 := hide (HI.out.to (QT_ok 40) hba)
          have HTV3 := hide (HTV.out.below hba)
          have HBC := hide (Blk.new x2 35 #[.map (some bm)])
          have HNB : Hid ((Value.slice C j rc).ownBlock ≠ some bm) := hide (fun e => by obtain ⟨g0, _, hblk⟩ := HI.out.own.cells bm e; exact HTV.out.ne_cells hblk rfl)
          have hszx := hba.size
          clear hba
          go_wp2_with (at_builtin; refine wpList_append_G _ rfl (.tmp 69) (.tmp 72) 33 rfl wo.heap.size 35 i0 (.map none) 1 8 Try.underlying33 HI0.out HZ0.out HZ1.out HZ2.out rfl (by omega) (by omega) C j rc us rfl HI3.out.own ⟨x2.heap.size, 0, none⟩ 1 1 [.map (some bm)] rfl rfl (cells_one HBC.out) (by simp [Value.oneCell']) (by omega) (by simp; omega) ?_; intro C9 rc9 x9 happ)
          have hN := HI3.out.add (QT_ok 40) rfl ⟨bm, rfl, ⟨hbm2, by simp; have := HTV.out.lt; omega, HNB.out⟩, HTV3.out⟩ happ
          rw [← HTJ.out] at hN
          have HN := hide hN
          clear hN happ
          go_wp2_with fail
          go_roundw
          case rel => exact ⟨j + 1, rc9, C9, _, by go_num, by omega, rfl, HN⟩
          case measure => simp [intOf]; omega
        · have hjm : j = rm := by omega
          have HR1 : Hid (RdS (QT 40) 1 (fun b => wo.heap.size ≤ b ∧ b < wr.heap.size) wr C j rc (mapR ps)) := hide (by have h := HI.out.rdK (QT_ok 40) (by omega) (fun b hb => hb); rw [List.take_of_length_le (by rw [HSR.out.len]; omega)] at h; exact h)
          have hwo := HO.out.below.size
          have HOL := hide (fun g0 e => (HO.out.own.lt g0 e).2)
          have HO2 := hide (HO.out.to (QS_ok (QT_ok 40) 1) HI.out.below)
          have hwr := HI.out.below.size
          have hba : Below wr.heap.size wr (wr.alloc (.cells #[.slice C j rc] 33)) := (Below.refl _ _).alloc (Nat.le_refl _) _
          have HO3 := hide (HO2.out.to (QS_ok (QT_ok 40) 1) hba)
          have HR3 := hide (HR1.out.keep (QT_ok 40) ((SameK.below hba).mono fun b hb => hb.2) hba.size)
          have HBC := hide (Blk.new wr 33 #[.slice C j rc])
          have hsz9 := hba.size
          have HK2 := hide (show k + 1 ≤ 1000000 by have := HLT.out; omega)
          clear hba hjm
          go_wp2_with (at_builtin; refine wpList_append_G _ rfl (.tmp 75) (.tmp 77) 32 rfl w16.heap.size 33 i1 (.slice none 0 0) 1 24 Try.underlying32 HI1.out HY0.out HY1.out HY2.out rfl (by omega) (by omega) B k ac vs rfl HO3.out.own ⟨wr.heap.size, 0, none⟩ 1 1 [.slice C j rc] rfl rfl (cells_one HBC.out) (by simp [Value.oneCell']) HK2.out (by simp; omega) ?_; intro B9 ac9 x9 happ)
          have hN := HO3.out.add (QS_ok (QT_ok 40) 1) rfl ⟨C, j, rc, rfl, HR3.out.mono (QT_ok 40) fun b hb h2 => ⟨by omega, hb, fun e => by have := HOL.out b e; omega⟩⟩ happ
          rw [← HTK.out] at hN
          have HN := hide hN
          clear hN happ
          have hlt9 := HLT.out
          go_wp2_with fail
          go_roundw
          case rel => exact ⟨k + 1, ac9, B9, _, by go_num, by omega, rfl, HN⟩
          case measure => simp [intOf]; omega
    · have hkn : k = n := by omega
      have HM : Hid (Rd (QS (QT 40) 1) 1 wr B k ac (mapT pss)) := hide (by have h := HO.out.rd (QS_ok (QT_ok 40) 1) (by omega) (fun b hb => hb); rw [List.take_of_length_le (by rw [HL.out]; omega)] at h; exact h)
      have HSQ := hide (mapT_sq HSX.out HL.out)
      have HSM := hide (mapT_sm HSX.out HL.out)
      have HDE := hide (mapT_det HSX.out HL.out)
      subst hkn
      replace HW := hide (HW.out.trans (HO.out.below.mono HW.out.size))
      replace SP := hide (SP.out.below HO.out.below)
      replace B3 := hide (B3.out.below HO.out.below B3.out.lt)
      replace B8 := hide (B8.out.below HO.out.below B8.out.lt)
      replace B10 := hide (B10.out.below HO.out.below B10.out.lt)
      clear HO HWr
      go_wp2_with fail
      refine (polyDet_any B k ac (mapT pss) _ HM.out HSQ.out HSM.out hn4).mono ?_
      rintro e w21 ⟨bd, rfl, hbd, htv, hb⟩
      replace HW := hide (HW.out.trans (hb.mono HW.out.size))
      replace SP := hide (SP.out.below hb)
      replace B3 := hide (B3.out.below hb B3.out.lt)
      replace B8 := hide (B8.out.below hb B8.out.lt)
      replace B10 := hide (B10.out.below hb B10.out.lt)
      have HTV := hide htv
      clear hb htv hbd HM
      have HBT := hide B10.out.lt
      go_wp2_with fail
      refine (tv_poly HTV.out (by omega)).mono ?_
      rintro e w22 ⟨Q, qn, qc, rfl, hs, hnw, hb⟩
      replace HW := hide (HW.out.trans (hb.mono HW.out.size))
      replace SP := hide (SP.out.below hb)
      replace B3 := hide (B3.out.below hb B3.out.lt)
      replace B8 := hide (B8.out.below hb B8.out.lt)
      replace B10 := hide (B10.out.below hb B10.out.lt)
      replace HTV := hide (HTV.out.below hb)
      have SQ := hide hs
      have HNQ := hide hnw
      clear hb hs hnw
      rw [HDE.out] at SQ ⊢
      have HDF := hide (fitL_fit (detR k (mP pss)))
      rw [← HR2.out] at HDF
      have HFL : Hid (LP.fitL (LP.canon (detR k (mP pss))).1 (LP.canon (detR k (mP pss))).2 = (er, lr, cr)) := HDF
      generalize LP.canon (detR k (mP pss)) = cd at *
      go_wp2_with fail
      refine (fits_any cd.1 Q qn qc cd.2 _ SQ.out).mono ?_
      rintro e w23 ⟨M, mm, md, rfl, hs, hmq, hb⟩
      replace HW := hide (HW.out.trans (hb.mono HW.out.size))
      replace SP := hide (SP.out.below hb)
      replace B3 := hide (B3.out.below hb B3.out.lt)
      replace B8 := hide (B8.out.below hb B8.out.lt)
      replace B10 := hide (B10.out.below hb B10.out.lt)
      replace SQ := hide (SQ.out.below hb)
      rw [HFL.out] at hs ⊢
      dsimp only at hs ⊢
      have SM := hide hs
      have HMQ := hide hmq
      clear hb hs hmq
      have f0 := B10.out.frozen 0
      have f1 := B10.out.frozen 1
      have fl := B10.out.lt
      have y0 := B10.out.cell 0
      have y1 := B10.out.cell 1
      simp at y0 y1
      go_upto_region 22 with fail
      have HMN : Hid (0 < mm → ∀ ad, M = some ad → ad.block ≠ b10) := hide (fun h ad e => by obtain ⟨h1, h2⟩ := HMQ.out h; subst h1; subst h2; have := HNQ.out h ad e; have := HBT.out; omega)
      have hx3 := (B3.out.far (p := ⟨b10, 0, none⟩) (by have := HLT3.out; show b3 ≠ b10; omega) (.int .i64 lr)).far (p := ⟨b10, 1, none⟩) (by have := HLT3.out; show b3 ≠ b10; omega) (.slice M mm md)
      have hx10 := (B10.out.set_ 0 (.int .i64 lr)).set_ 1 (.slice M mm md)
      have hxp := (SP.out.setCell (b := b10) (fun h ad e => by have := HPI.out h ad e; omega) 0 (.int .i64 lr)).setCell (b := b10) (fun h ad e => by have := HPI.out h ad e; omega) 1 (.slice M mm md)
      have hxm := (SM.out.setCell (b := b10) (HMN.out) 0 (.int .i64 lr)).setCell (b := b10) (HMN.out) 1 (.slice M mm md)
      have hxw := (HW.out.setCell (p := ⟨b10, 0, none⟩) HWLT.out (.int .i64 lr)).setCell (p := ⟨b10, 1, none⟩) HWLT.out (.slice M mm md)
      clear y0 y1 f0 f1
      generalize ((w23.setCell ⟨b10, 0, none⟩ (.int .i64 lr)).setCell ⟨b10, 1, none⟩ (.slice M mm md)) = w6 at *
      have HX3 := hide hx3
      have HX10 := hide hx10
      have HXP := hide hxp
      have HXM := hide hxm
      have HXW := hide hxw
      clear hx3 hx10 hxp hxm hxw
      simp at HX10
      have x0 := HX3.out.cell 0
      have x1 := HX3.out.cell 1
      simp at x0 x1
      have y0 := HX10.out.cell 0
      have y1 := HX10.out.cell 1
      simp at y0 y1
      have hee : (er == er) = true := by simp
      go_wp2_with fail
      refine (same_y lr cr _ P pn pc M mm md HXP.out HXM.out).mono ?_
      rintro e w7 ⟨rfl, hb⟩
      replace HXW := hide (HXW.out.trans (hb.mono HXW.out.size))
      clear hb
      go_wp2_with fail
      go_ret
      exact ⟨rfl, HXW.out⟩
end Go.Proofs.Ytgmjighgncpefaa
