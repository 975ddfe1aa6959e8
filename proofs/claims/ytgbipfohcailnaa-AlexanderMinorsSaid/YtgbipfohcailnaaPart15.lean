/- Several texts in one. -/
import Derived.Test.YtgbipfohcailnaaPart14
import Derived.Test.YtgbipfohcailnaaPart9
import Derived.Test.YtgbipfohcailnaaBase1
import Derived.Test.YtgbipfohcailnaaPart5
import Derived.Test.YtgbipfohcailnaaPart1
/- Package braid: block. -/
namespace Go.Proofs.Ytgbipfohcailnaa
set_option linter.unusedVariables false
set_option linter.unusedSimpArgs false
open Go.RowKit

def e00 (x : Int) : LP := if 0 < x then 1 + -tT else 0
def e01 (x : Int) : LP := if 0 < x then tT else 1
def e10 (x : Int) : LP := if 0 < x then 1 else tI
def e11 (x : Int) : LP := if 0 < x then 0 else 1 + -tI
theorem canon_zero : LP.canon 0 = (0, []) := LP.canon_eq (.inl ⟨rfl, rfl⟩) rfl
theorem canon_one : LP.canon 1 = (0, [1]) := LP.canon_eq (.inr ⟨by simp, by decide, by decide⟩) (by unfold LP.of; rfl)
theorem canon_tT : LP.canon tT = (1, [1]) := LP.canon_eq (.inr ⟨by simp, by decide, by decide⟩) (by unfold LP.of; rfl)
theorem canon_tI : LP.canon tI = (-1, [1]) := LP.canon_eq (.inr ⟨by simp, by decide, by decide⟩) (by unfold LP.of; rfl)
theorem canon_one_tT : LP.canon (1 + -tT) = (0, [1, -1]) := LP.canon_eq (.inr ⟨by simp, by decide, by decide⟩) (by unfold LP.of; rfl)
theorem canon_one_tI : LP.canon (1 + -tI) = (-1, [-1, 1]) := LP.canon_eq (.inr ⟨by simp, by decide, by decide⟩) (by unfold LP.of; rw [CR.add_comm]; rfl)
/-- The four polynomials of a letter. -/
def GivesB (w : World) (x : Int) (e : Ending) (w' : World) : Prop :=
  ∃ A n c B m d C l f D k g, e = .returned (.agg #[.int .i64 (LP.canon (e00 x)).1, .slice A n c, .int .i64 (LP.canon (e01 x)).1, .slice B m d, .int .i64 (LP.canon (e10 x)).1, .slice C l f, .int .i64 (LP.canon (e11 x)).1, .slice D k g]) ∧
    SL w' A n c (LP.canon (e00 x)).2 ∧ SL w' B m d (LP.canon (e01 x)).2 ∧ SL w' C l f (LP.canon (e10 x)).2 ∧ SL w' D k g (LP.canon (e11 x)).2 ∧ NewA w B m ∧ NewA w D k ∧ Below w.heap.size w w'
theorem eBpoly : ∀ args w, (callFunc 60 args).run Try.prog w = .ok (.enter 60 args) w := enters (fn := Try.f60) (by kernel_rfl) (by kernel_rfl) (by kernel_rfl)

set_option maxRecDepth 100000 in
theorem results_sq {fn : Func} {t : Tmp} {b : Nat} {v0 v1 v2 v3 v4 v5 v6 v7 : Value} {w : World} (h : fn.results = #[.cell t 86]) (tmps : Array Value) (ht : tmps.getD t undef = .pointer (some ⟨b, 0, none⟩)) (hb : Blk w b 86 #[v0, v1, v2, v3, v4, v5, v6, v7]) :
    (results fn tmps).run Try.prog w = .ok (.agg #[v0, v1, v2, v3, v4, v5, v6, v7]) w := by
  have h0 := hb.cell 0
  have h1 := hb.cell 1
  have h2 := hb.cell 2
  have h3 := hb.cell 3
  have h4 := hb.cell 4
  have h5 := hb.cell 5
  have h6 := hb.cell 6
  have h7 := hb.cell 7
  simp at h0 h1 h2 h3 h4 h5 h6 h7
  have ht2 : tmps[t]?.getD undef = .pointer (some ⟨b, 0, none⟩) := by simpa using ht
  simp [results, h, ht2, go_sem, h0, h1, h2, h3, h4, h5, h6, h7, Result.andThen]

set_option maxRecDepth 100000 in
set_option maxHeartbeats 4000000 in
theorem block_pos (x : Int) (w : World) (h0 : 0 < x) : Calls Try.prog 62 #[.int .i64 x] w (GivesB w x) := by
  have hW0 : Below w.heap.size w (w.alloc (.cells #[.int .i64 0, .slice none 0 0, .int .i64 0, .slice none 0 0, .int .i64 0, .slice none 0 0, .int .i64 0, .slice none 0 0] 86)) := (Below.refl _ _).alloc (Nat.le_refl _) _
  have HW := hide hW0
  have HK := hide (Blk.new w 86 #[.int .i64 0, .slice none 0 0, .int .i64 0, .slice none 0 0, .int .i64 0, .slice none 0 0, .int .i64 0, .slice none 0 0])
  go_enter Try.func62, Try.ntmps62
  go_upto_region 2 with fail
  obtain ⟨W0, hw0⟩ : ∃ W, w.alloc (.cells #[.int .i64 0, .slice none 0 0, .int .i64 0, .slice none 0 0, .int .i64 0, .slice none 0 0, .int .i64 0, .slice none 0 0] 86) = W := ⟨_, rfl⟩
  have hz0 : w.heap.size < W0.heap.size := by rw [← hw0]; simp
  rw [hw0] at HW HK ⊢
  obtain ⟨b0, hb0⟩ : ∃ b, w.heap.size = b := ⟨_, rfl⟩
  rw [hb0] at hz0 HK ⊢
  have HZ := hide hb0
  clear hw0 hb0 hW0
  go_wp2_with fail
  have hl := SL.lit W0 [1, -1] (by decide) (cs := #[.int .i64 1, .int .i64 (-1)]) rfl (m := 2) rfl
  have hb := (Below.refl W0.heap.size W0).alloc (Nat.le_refl _) (.cells #[.int .i64 1, .int .i64 (-1)] 3)
  obtain ⟨V1, hV⟩ : ∃ V, W0.alloc (.cells #[.int .i64 1, .int .i64 (-1)] 3) = V := ⟨_, rfl⟩
  rw [hV] at hl hb ⊢
  refine (bpoly_any 0 _ _ _ V1).mono ?_
  rintro e W1 ⟨rfl, hc⟩
  have hbc := hb.trans (hc.mono hb.size)
  have HS1 := hide (hl.below hc)
  replace HW := hide (HW.out.trans (hbc.mono HW.out.size))
  replace HK := hide (HK.out.below hbc (by omega))
  have hz1 : b0 < W1.heap.size := by have := hbc.size; omega
  clear hl hb hc hbc hV
  go_wp2_with fail
  have hl := SL.lit W1 [1] (by decide) (cs := #[.int .i64 1]) rfl (m := 1) rfl
  have hb := (Below.refl W1.heap.size W1).alloc (Nat.le_refl _) (.cells #[.int .i64 1] 3)
  obtain ⟨V2, hV⟩ : ∃ V, W1.alloc (.cells #[.int .i64 1] 3) = V := ⟨_, rfl⟩
  rw [hV] at hl hb ⊢
  refine (bpoly_any 1 _ _ _ V2).mono ?_
  rintro e W2 ⟨rfl, hc⟩
  have hbc := hb.trans (hc.mono hb.size)
  have HS2 := hide (hl.below hc)
  replace HS1 := hide (HS1.out.below hbc)
  replace HW := hide (HW.out.trans (hbc.mono HW.out.size))
  replace HK := hide (HK.out.below hbc (by omega))
  have hz2 : b0 < W2.heap.size := by have := hbc.size; omega
  clear hl hb hc hbc hV
  go_wp2_with fail
  have hl := SL.lit W2 [1] (by decide) (cs := #[.int .i64 1]) rfl (m := 1) rfl
  have hb := (Below.refl W2.heap.size W2).alloc (Nat.le_refl _) (.cells #[.int .i64 1] 3)
  obtain ⟨V3, hV⟩ : ∃ V, W2.alloc (.cells #[.int .i64 1] 3) = V := ⟨_, rfl⟩
  rw [hV] at hl hb ⊢
  refine (bpoly_any 0 _ _ _ V3).mono ?_
  rintro e W3 ⟨rfl, hc⟩
  have hbc := hb.trans (hc.mono hb.size)
  have HS3 := hide (hl.below hc)
  replace HS1 := hide (HS1.out.below hbc)
  replace HS2 := hide (HS2.out.below hbc)
  replace HW := hide (HW.out.trans (hbc.mono HW.out.size))
  replace HK := hide (HK.out.below hbc (by omega))
  have hz3 : b0 < W3.heap.size := by have := hbc.size; omega
  clear hl hb hc hbc hV
  have f0 := HK.out.frozen 0
  have g0 := HK.out.cell 0
  have f1 := HK.out.frozen 1
  have g1 := HK.out.cell 1
  have f2 := HK.out.frozen 2
  have g2 := HK.out.cell 2
  have f3 := HK.out.frozen 3
  have g3 := HK.out.cell 3
  have f4 := HK.out.frozen 4
  have g4 := HK.out.cell 4
  have f5 := HK.out.frozen 5
  have g5 := HK.out.cell 5
  have f6 := HK.out.frozen 6
  have g6 := HK.out.cell 6
  have f7 := HK.out.frozen 7
  have g7 := HK.out.cell 7
  simp at g0 g1 g2 g3 g4 g5 g6 g7
  go_wp2_with fail
  refine bodyPost_ret (results_sq rfl _ rfl ((((((((HK.out.set_ 0 (.int .i64 0)).set_ 1 (.slice (some ⟨W0.heap.size, 0, none⟩) 2 2)).set_ 2 (.int .i64 1)).set_ 3 (.slice (some ⟨W1.heap.size, 0, none⟩) 1 1)).set_ 4 (.int .i64 0)).set_ 5 (.slice (some ⟨W2.heap.size, 0, none⟩) 1 1)).set_ 6 (.int .i64 0)).set_ 7 (.slice none 0 0))) rfl ?_
  have n0 : ∀ {m : Nat}, 0 < m → ∀ ad, some (⟨W0.heap.size, 0, none⟩ : Addr) = some ad → ad.block ≠ b0 := fun _ ad e => by injection e with e; subst e; show W0.heap.size ≠ b0; omega
  have n1 : ∀ {m : Nat}, 0 < m → ∀ ad, some (⟨W1.heap.size, 0, none⟩ : Addr) = some ad → ad.block ≠ b0 := fun _ ad e => by injection e with e; subst e; show W1.heap.size ≠ b0; omega
  have n2 : ∀ {m : Nat}, 0 < m → ∀ ad, some (⟨W2.heap.size, 0, none⟩ : Addr) = some ad → ad.block ≠ b0 := fun _ ad e => by injection e with e; subst e; show W2.heap.size ≠ b0; omega
  have y1 := ((((((((HS1.out.setCell n0 0 (.int .i64 0)).setCell n0 1 (.slice (some ⟨W0.heap.size, 0, none⟩) 2 2)).setCell n0 2 (.int .i64 1)).setCell n0 3 (.slice (some ⟨W1.heap.size, 0, none⟩) 1 1)).setCell n0 4 (.int .i64 0)).setCell n0 5 (.slice (some ⟨W2.heap.size, 0, none⟩) 1 1)).setCell n0 6 (.int .i64 0)).setCell n0 7 (.slice none 0 0))
  have y2 := ((((((((HS2.out.setCell n1 0 (.int .i64 0)).setCell n1 1 (.slice (some ⟨W0.heap.size, 0, none⟩) 2 2)).setCell n1 2 (.int .i64 1)).setCell n1 3 (.slice (some ⟨W1.heap.size, 0, none⟩) 1 1)).setCell n1 4 (.int .i64 0)).setCell n1 5 (.slice (some ⟨W2.heap.size, 0, none⟩) 1 1)).setCell n1 6 (.int .i64 0)).setCell n1 7 (.slice none 0 0))
  have y3 := ((((((((HS3.out.setCell n2 0 (.int .i64 0)).setCell n2 1 (.slice (some ⟨W0.heap.size, 0, none⟩) 2 2)).setCell n2 2 (.int .i64 1)).setCell n2 3 (.slice (some ⟨W1.heap.size, 0, none⟩) 1 1)).setCell n2 4 (.int .i64 0)).setCell n2 5 (.slice (some ⟨W2.heap.size, 0, none⟩) 1 1)).setCell n2 6 (.int .i64 0)).setCell n2 7 (.slice none 0 0))
  have hw := ((((((((HW.out.setCell (p := ⟨b0, 0, none⟩) (Nat.le_of_eq HZ.out) (.int .i64 0)).setCell (p := ⟨b0, 1, none⟩) (Nat.le_of_eq HZ.out) (.slice (some ⟨W0.heap.size, 0, none⟩) 2 2)).setCell (p := ⟨b0, 2, none⟩) (Nat.le_of_eq HZ.out) (.int .i64 1)).setCell (p := ⟨b0, 3, none⟩) (Nat.le_of_eq HZ.out) (.slice (some ⟨W1.heap.size, 0, none⟩) 1 1)).setCell (p := ⟨b0, 4, none⟩) (Nat.le_of_eq HZ.out) (.int .i64 0)).setCell (p := ⟨b0, 5, none⟩) (Nat.le_of_eq HZ.out) (.slice (some ⟨W2.heap.size, 0, none⟩) 1 1)).setCell (p := ⟨b0, 6, none⟩) (Nat.le_of_eq HZ.out) (.int .i64 0)).setCell (p := ⟨b0, 7, none⟩) (Nat.le_of_eq HZ.out) (.slice none 0 0))
  unfold GivesB e00 e01 e10 e11
  simp only [if_pos h0, canon_one_tT, canon_tT, canon_one, canon_zero]
  exact ⟨_, _, _, _, _, _, _, _, _, _, _, _, rfl, y1, y2, y3, SL.nil_ _, fun _ ad e => by injection e with e; subst e; show w.heap.size ≤ W1.heap.size; have := HZ.out; omega, fun _ ad e => (by cases e), hw⟩

set_option maxRecDepth 100000 in
set_option maxHeartbeats 4000000 in
theorem block_neg (x : Int) (w : World) (h0 : ¬ 0 < x) : Calls Try.prog 62 #[.int .i64 x] w (GivesB w x) := by
  have hW0 : Below w.heap.size w (w.alloc (.cells #[.int .i64 0, .slice none 0 0, .int .i64 0, .slice none 0 0, .int .i64 0, .slice none 0 0, .int .i64 0, .slice none 0 0] 86)) := (Below.refl _ _).alloc (Nat.le_refl _) _
  have HW := hide hW0
  have HK := hide (Blk.new w 86 #[.int .i64 0, .slice none 0 0, .int .i64 0, .slice none 0 0, .int .i64 0, .slice none 0 0, .int .i64 0, .slice none 0 0])
  go_enter Try.func62, Try.ntmps62
  go_upto_region 3 with fail
  obtain ⟨W0, hw0⟩ : ∃ W, w.alloc (.cells #[.int .i64 0, .slice none 0 0, .int .i64 0, .slice none 0 0, .int .i64 0, .slice none 0 0, .int .i64 0, .slice none 0 0] 86) = W := ⟨_, rfl⟩
  have hz0 : w.heap.size < W0.heap.size := by rw [← hw0]; simp
  rw [hw0] at HW HK ⊢
  obtain ⟨b0, hb0⟩ : ∃ b, w.heap.size = b := ⟨_, rfl⟩
  rw [hb0] at hz0 HK ⊢
  have HZ := hide hb0
  clear hw0 hb0 hW0
  go_wp2_with fail
  have hl := SL.lit W0 [1] (by decide) (cs := #[.int .i64 1]) rfl (m := 1) rfl
  have hb := (Below.refl W0.heap.size W0).alloc (Nat.le_refl _) (.cells #[.int .i64 1] 3)
  obtain ⟨V1, hV⟩ : ∃ V, W0.alloc (.cells #[.int .i64 1] 3) = V := ⟨_, rfl⟩
  rw [hV] at hl hb ⊢
  refine (bpoly_any 0 _ _ _ V1).mono ?_
  rintro e W1 ⟨rfl, hc⟩
  have hbc := hb.trans (hc.mono hb.size)
  have HS1 := hide (hl.below hc)
  replace HW := hide (HW.out.trans (hbc.mono HW.out.size))
  replace HK := hide (HK.out.below hbc (by omega))
  have hz1 : b0 < W1.heap.size := by have := hbc.size; omega
  clear hl hb hc hbc hV
  go_wp2_with fail
  have hl := SL.lit W1 [1] (by decide) (cs := #[.int .i64 1]) rfl (m := 1) rfl
  have hb := (Below.refl W1.heap.size W1).alloc (Nat.le_refl _) (.cells #[.int .i64 1] 3)
  obtain ⟨V2, hV⟩ : ∃ V, W1.alloc (.cells #[.int .i64 1] 3) = V := ⟨_, rfl⟩
  rw [hV] at hl hb ⊢
  refine (bpoly_any (-1) _ _ _ V2).mono ?_
  rintro e W2 ⟨rfl, hc⟩
  have hbc := hb.trans (hc.mono hb.size)
  have HS2 := hide (hl.below hc)
  replace HS1 := hide (HS1.out.below hbc)
  replace HW := hide (HW.out.trans (hbc.mono HW.out.size))
  replace HK := hide (HK.out.below hbc (by omega))
  have hz2 : b0 < W2.heap.size := by have := hbc.size; omega
  clear hl hb hc hbc hV
  go_wp2_with fail
  have hl := SL.lit W2 [-1, 1] (by decide) (cs := #[.int .i64 (-1), .int .i64 1]) rfl (m := 2) rfl
  have hb := (Below.refl W2.heap.size W2).alloc (Nat.le_refl _) (.cells #[.int .i64 (-1), .int .i64 1] 3)
  obtain ⟨V3, hV⟩ : ∃ V, W2.alloc (.cells #[.int .i64 (-1), .int .i64 1] 3) = V := ⟨_, rfl⟩
  rw [hV] at hl hb ⊢
  refine (bpoly_any (-1) _ _ _ V3).mono ?_
  rintro e W3 ⟨rfl, hc⟩
  have hbc := hb.trans (hc.mono hb.size)
  have HS3 := hide (hl.below hc)
  replace HS1 := hide (HS1.out.below hbc)
  replace HS2 := hide (HS2.out.below hbc)
  replace HW := hide (HW.out.trans (hbc.mono HW.out.size))
  replace HK := hide (HK.out.below hbc (by omega))
  have hz3 : b0 < W3.heap.size := by have := hbc.size; omega
  clear hl hb hc hbc hV
  have f0 := HK.out.frozen 0
  have g0 := HK.out.cell 0
  have f1 := HK.out.frozen 1
  have g1 := HK.out.cell 1
  have f2 := HK.out.frozen 2
  have g2 := HK.out.cell 2
  have f3 := HK.out.frozen 3
  have g3 := HK.out.cell 3
  have f4 := HK.out.frozen 4
  have g4 := HK.out.cell 4
  have f5 := HK.out.frozen 5
  have g5 := HK.out.cell 5
  have f6 := HK.out.frozen 6
  have g6 := HK.out.cell 6
  have f7 := HK.out.frozen 7
  have g7 := HK.out.cell 7
  simp at g0 g1 g2 g3 g4 g5 g6 g7
  go_wp2_with fail
  refine bodyPost_ret (results_sq rfl _ rfl ((((((((HK.out.set_ 0 (.int .i64 0)).set_ 1 (.slice none 0 0)).set_ 2 (.int .i64 0)).set_ 3 (.slice (some ⟨W0.heap.size, 0, none⟩) 1 1)).set_ 4 (.int .i64 (-1))).set_ 5 (.slice (some ⟨W1.heap.size, 0, none⟩) 1 1)).set_ 6 (.int .i64 (-1))).set_ 7 (.slice (some ⟨W2.heap.size, 0, none⟩) 2 2))) rfl ?_
  have n0 : ∀ {m : Nat}, 0 < m → ∀ ad, some (⟨W0.heap.size, 0, none⟩ : Addr) = some ad → ad.block ≠ b0 := fun _ ad e => by injection e with e; subst e; show W0.heap.size ≠ b0; omega
  have n1 : ∀ {m : Nat}, 0 < m → ∀ ad, some (⟨W1.heap.size, 0, none⟩ : Addr) = some ad → ad.block ≠ b0 := fun _ ad e => by injection e with e; subst e; show W1.heap.size ≠ b0; omega
  have n2 : ∀ {m : Nat}, 0 < m → ∀ ad, some (⟨W2.heap.size, 0, none⟩ : Addr) = some ad → ad.block ≠ b0 := fun _ ad e => by injection e with e; subst e; show W2.heap.size ≠ b0; omega
  have y1 := ((((((((HS1.out.setCell n0 0 (.int .i64 0)).setCell n0 1 (.slice none 0 0)).setCell n0 2 (.int .i64 0)).setCell n0 3 (.slice (some ⟨W0.heap.size, 0, none⟩) 1 1)).setCell n0 4 (.int .i64 (-1))).setCell n0 5 (.slice (some ⟨W1.heap.size, 0, none⟩) 1 1)).setCell n0 6 (.int .i64 (-1))).setCell n0 7 (.slice (some ⟨W2.heap.size, 0, none⟩) 2 2))
  have y2 := ((((((((HS2.out.setCell n1 0 (.int .i64 0)).setCell n1 1 (.slice none 0 0)).setCell n1 2 (.int .i64 0)).setCell n1 3 (.slice (some ⟨W0.heap.size, 0, none⟩) 1 1)).setCell n1 4 (.int .i64 (-1))).setCell n1 5 (.slice (some ⟨W1.heap.size, 0, none⟩) 1 1)).setCell n1 6 (.int .i64 (-1))).setCell n1 7 (.slice (some ⟨W2.heap.size, 0, none⟩) 2 2))
  have y3 := ((((((((HS3.out.setCell n2 0 (.int .i64 0)).setCell n2 1 (.slice none 0 0)).setCell n2 2 (.int .i64 0)).setCell n2 3 (.slice (some ⟨W0.heap.size, 0, none⟩) 1 1)).setCell n2 4 (.int .i64 (-1))).setCell n2 5 (.slice (some ⟨W1.heap.size, 0, none⟩) 1 1)).setCell n2 6 (.int .i64 (-1))).setCell n2 7 (.slice (some ⟨W2.heap.size, 0, none⟩) 2 2))
  have hw := ((((((((HW.out.setCell (p := ⟨b0, 0, none⟩) (Nat.le_of_eq HZ.out) (.int .i64 0)).setCell (p := ⟨b0, 1, none⟩) (Nat.le_of_eq HZ.out) (.slice none 0 0)).setCell (p := ⟨b0, 2, none⟩) (Nat.le_of_eq HZ.out) (.int .i64 0)).setCell (p := ⟨b0, 3, none⟩) (Nat.le_of_eq HZ.out) (.slice (some ⟨W0.heap.size, 0, none⟩) 1 1)).setCell (p := ⟨b0, 4, none⟩) (Nat.le_of_eq HZ.out) (.int .i64 (-1))).setCell (p := ⟨b0, 5, none⟩) (Nat.le_of_eq HZ.out) (.slice (some ⟨W1.heap.size, 0, none⟩) 1 1)).setCell (p := ⟨b0, 6, none⟩) (Nat.le_of_eq HZ.out) (.int .i64 (-1))).setCell (p := ⟨b0, 7, none⟩) (Nat.le_of_eq HZ.out) (.slice (some ⟨W2.heap.size, 0, none⟩) 2 2))
  unfold GivesB e00 e01 e10 e11
  simp only [if_neg (show ¬ 0 < x by omega), canon_one_tI, canon_tI, canon_one, canon_zero]
  exact ⟨_, _, _, _, _, _, _, _, _, _, _, _, rfl, SL.nil_ _, y1, y2, y3, fun _ ad e => by injection e with e; subst e; show w.heap.size ≤ W0.heap.size; have := HZ.out; omega, fun _ ad e => by injection e with e; subst e; show w.heap.size ≤ W2.heap.size; have := HZ.out; omega, hw⟩

theorem block_any (x : Int) (w : World) : Calls Try.prog 62 #[.int .i64 x] w (GivesB w x) := by
  by_cases h0 : 0 < x
  · exact block_pos x w h0
  · exact block_neg x w h0
end Go.Proofs.Ytgbipfohcailnaa
/- Package polymatrix: expand. -/
namespace Go.Proofs.Ytgbipfohcailnaa
set_option linter.unusedVariables false
set_option linter.unusedSimpArgs false
open Go.RowKit

theorem cell_at_var {w : World} {a : Addr} {v : Value} (h : w.cell? a = some v) : ∃ g o, a = ⟨g, o, none⟩ := by
  obtain ⟨g, o, p⟩ := a
  cases p with
  | none => exact ⟨g, o, rfl⟩
  | some p =>
    exfalso
    unfold World.cell? at h
    split at h
    · simp at h
    · cases h
theorem rangeAt_two {z : World} {g o : Nat} {u v : Value} (h0 : z.cell? ⟨g, o, none⟩ = some u) (h1 : z.cell? ⟨g, o + 1, none⟩ = some v) : z.rangeAt g o [u, v] := fun j x hx => by
  match j, hx with
  | 0, hx => injection hx with hx; rw [← hx]; exact h0
  | 1, hx => injection hx with hx; rw [← hx]; exact h1
theorem SPP.tail_ {w : World} {A : Option Addr} {n c : Nat} {pss : List (List Po)} (h : SPP w A n c pss) (h1 : 1 ≤ n) : SPP w (cutA A 1 c) (n - 1) (c - 1) (pss.drop 1) := by
  have hl := h.len
  have hc := h.cap
  refine ⟨by simp; omega, by have := h.small; omega, fun e => cutA_none h.nil h1 (Nat.le_refl n) e, by omega, fun h0 => ?_⟩
  obtain ⟨ad, rfl, hlt, hcl⟩ := h.mem (by omega)
  unfold cutA
  rw [if_neg (by omega)]
  refine ⟨ad.add 1, rfl, by rw [block_of_add]; exact hlt, fun j hj => ?_⟩
  rw [add_of_add]
  obtain ⟨B, m, d, q1, q2⟩ := hcl (1 + j) (by omega)
  refine ⟨B, m, d, q1, ?_⟩
  rw [show (pss.drop 1).getD j [] = pss.getD (1 + j) [] by simp [List.getD, List.getElem?_drop, Nat.add_comm]]
  exact q2
theorem SPP.blk {w : World} {A : Option Addr} {n c : Nat} {pss : List (List Po)} (h : SPP w A n c pss) (h1 : 1 ≤ n) : ∀ ad, A = some ad → ad.block < w.heap.size := fun ad e => by
  obtain ⟨ad2, e2, hl, _⟩ := h.mem (by omega)
  rw [e] at e2
  cases e2
  exact hl

end Go.Proofs.Ytgbipfohcailnaa
/- Package alexander: rowTimesColumn. (Written by tools/gen_al1.py.) -/
namespace Go.Proofs.Ytgbipfohcailnaa
set_option linter.unusedVariables false
set_option linter.unusedSimpArgs false
open Go.RowKit

theorem eAlMul : ∀ args w, (callFunc 54 args).run Try.prog w = .ok (.enter 54 args) w := enters (fn := Try.f54) (by kernel_rfl) (by kernel_rfl) (by kernel_rfl)
theorem eAlSub : ∀ args w, (callFunc 32 args).run Try.prog w = .ok (.enter 32 args) w := enters (fn := Try.f32) (by kernel_rfl) (by kernel_rfl) (by kernel_rfl)
theorem al_mul (F : PolyC) {x y : LP} (hx : LP.Rt x) (hy : LP.Rt y) (hz : LP.Rt (x * y)) (w : World) (A : Option Addr) (n c : Nat) (B : Option Addr) (m d : Nat) (ha : SL w A n c (LP.canon x).2) (hb : SL w B m d (LP.canon y).2) :
    Calls Try.prog 54 #[PV (LP.canon x).1 A n c, PV (LP.canon y).1 B m d] w (GivesPE w (0, (LP.canon (x * y)).1, (LP.canon (x * y)).2)) := by
  have h := F.mul (LP.canon x).1 A n c (LP.canon x).2 (LP.canon y).1 B m d (LP.canon y).2 w ha hb hx.wf hy.wf
  rw [LP.mulR_canon hx hy hz] at h
  exact h
theorem al_add (F : PolyC) {x y : LP} (hx : LP.Rt x) (hy : LP.Rt y) (hz : LP.Rt (x + y)) (w : World) (A : Option Addr) (n c : Nat) (B : Option Addr) (m d : Nat) (ha : SL w A n c (LP.canon x).2) (hb : SL w B m d (LP.canon y).2) :
    Calls Try.prog 31 #[PV (LP.canon x).1 A n c, PV (LP.canon y).1 B m d] w (GivesPE w (0, (LP.canon (x + y)).1, (LP.canon (x + y)).2)) := by
  have h := F.add (LP.canon x).1 A n c (LP.canon x).2 (LP.canon y).1 B m d (LP.canon y).2 w ha hb hx.wf hy.wf
  rw [LP.addR_canon hx hy hz] at h
  exact h
theorem al_sub (F : PolyC) {x y : LP} (hx : LP.Rt x) (hy : LP.Rt y) (hz : LP.Rt (x + -y)) (w : World) (A : Option Addr) (n c : Nat) (B : Option Addr) (m d : Nat) (ha : SL w A n c (LP.canon x).2) (hb : SL w B m d (LP.canon y).2) :
    Calls Try.prog 32 #[PV (LP.canon x).1 A n c, PV (LP.canon y).1 B m d] w (GivesPE w (0, (LP.canon (x + -y)).1, (LP.canon (x + -y)).2)) := by
  have h := F.sub (LP.canon x).1 A n c (LP.canon x).2 (LP.canon y).1 B m d (LP.canon y).2 w ha hb hx.wf hy.wf
  rw [LP.subR_canon hx hy hz] at h
  exact h

set_option maxRecDepth 100000 in
set_option maxHeartbeats 8000000 in
theorem rtc_any (F : PolyC) (A : Option Addr) (n c : Nat) (ps : List Po) (B : Option Addr) (m d : Nat) (pss : List (List Po)) (j : Nat) (X Y : Nat → LP) (w : World) (ha : SPo w A n c ps) (hb : SPP w B m d pss) (hnm : n ≤ m)
    (hX : ∀ k, k < n → ps.getD k (0, []) = cP (X k)) (hY : ∀ k, k < n → (pss.getD k []).getD j (0, []) = cP (Y k)) (hl : ∀ k, k < n → j < (pss.getD k []).length)
    (rX : ∀ k, k < n → LP.Rt (X k)) (rY : ∀ k, k < n → LP.Rt (Y k)) (rP : ∀ k, k < n → LP.Rt (X k * Y k)) (rS : ∀ k, k ≤ n → LP.Rt (CR.sumN k fun i => X i * Y i)) :
    Calls Try.prog 34 #[.slice A n c, .slice B m d, .int .i64 j] w (GivesP w (LP.canon (CR.sumN n fun i => X i * Y i)).1 (LP.canon (CR.sumN n fun i => X i * Y i)).2) := by
  have HM := hide (fun k (hk : k < n) => al_mul F (rX k hk) (rY k hk) (rP k hk))
  obtain ⟨S, hS⟩ : ∃ S : Nat → LP, (fun k => CR.sumN k fun i => X i * Y i) = S := ⟨_, rfl⟩
  have hS0 : LP.canon (S 0) = (0, []) := by rw [← hS]; exact LP.canon_zero
  have HD := hide (fun k (hk : k < n) => (by
    have h := al_add F (rS k (by omega)) (rP k hk) (by have := rS (k + 1) hk; rwa [CR.sumN_succ] at this)
    rw [← CR.sumN_succ k (fun i => X i * Y i)] at h
    have e : ∀ i, (CR.sumN i fun i => X i * Y i) = S i := fun i => congrFun hS i
    rw [e, e] at h
    exact h :
    ∀ (w : World) (A : Option Addr) (n c : Nat) (B : Option Addr) (m d : Nat), SL w A n c (LP.canon (S k)).2 → SL w B m d (LP.canon (X k * Y k)).2 → Calls Try.prog 31 #[PV (LP.canon (S k)).1 A n c, PV (LP.canon (X k * Y k)).1 B m d] w (GivesPE w (0, (LP.canon (S (k + 1))).1, (LP.canon (S (k + 1))).2))))
  have eS : (CR.sumN n fun i => X i * Y i) = S n := congrFun hS n
  rw [eS]
  have HA := hide ha
  have HB := hide hb
  have HXX := hide hX
  have HYY := hide hY
  have HLL := hide hl
  have HNM := hide hnm
  have hsm := ha.small
  have HS0 := hide hS0
  clear ha hb hX hY hl rX rY rP rS hS eS F hS0 hnm
  obtain ⟨W0, hW0⟩ : ∃ W, (w.alloc (.cells #[.int .i64 0, .slice none 0 0] 24)).alloc (.cells #[.int .i64 0, .slice none 0 0] 24) = W := ⟨_, rfl⟩
  have hb0 : Below w.heap.size w W0 := by
    rw [← hW0]
    exact ((Below.refl _ _).alloc (Nat.le_refl _) _).alloc (by simp) _
  have K6 : Hid (Blk W0 w.heap.size 24 #[.int .i64 0, .slice none 0 0]) := hide (by rw [← hW0]; exact (Blk.new w _ _).alloc _)
  have K7 : Hid (Blk W0 (w.heap.size + 1) 24 #[.int .i64 (LP.canon (S 0)).1, .slice none 0 0]) := hide (by
    rw [← hW0, HS0.out]
    have h := Blk.new (w.alloc (.cells #[.int .i64 0, .slice none 0 0] 24)) 24 #[.int .i64 0, .slice none 0 0]
    simpa using h)
  have HW := hide hb0
  have SR : Hid (SL W0 none 0 0 (LP.canon (S 0)).2) := hide (by rw [HS0.out]; exact SL.nil_ _)
  clear hb0
  go_enter Try.func34, Try.ntmps34
  go_upto_region 2 with fail
  clear HS0
  obtain ⟨b6, hb6⟩ : ∃ b, w.heap.size = b := ⟨_, rfl⟩
  rw [hb6] at K6 K7 ⊢
  obtain ⟨b7, hb7⟩ : ∃ b, b6 + 1 = b := ⟨_, rfl⟩
  rw [hb7] at K7 ⊢
  have h67 : b6 ≠ b7 := by omega
  have HWB : Hid (w.heap.size ≤ b6 ∧ w.heap.size ≤ b7) := hide (by omega)
  clear hW0 hb6 hb7
  go_wp2_with fail
  go_loopw [14] (fun iv wx => ∃ (k : Nat) (R : Option Addr) (rn rc : Nat), iv = .int .i64 k ∧ k ≤ n ∧ Hid (Blk wx b6 24 #[.int .i64 0, .slice none 0 0]) ∧ Hid (Blk wx b7 24 #[.int .i64 (LP.canon (S k)).1, .slice R rn rc]) ∧ Hid (SL wx R rn rc (LP.canon (S k)).2) ∧ Hid (0 < rn → ∀ ad, R = some ad → b6 < ad.block ∧ b7 < ad.block) ∧ Hid (Below w.heap.size w wx)) (fun iv _ => n - (intOf iv).toNat)
  case atStart => exact ⟨0, none, 0, 0, rfl, Nat.zero_le _, K6, K7, SR, hide (fun h => absurd h (by omega)), HW⟩
  case round =>
    clear K6 K7 HW SR
    obtain ⟨k, R, rn, rc, rfl, hk, K6, K7, SR, HN, HW⟩ := hrel
    by_cases hlt : k < n
    · obtain ⟨ad, P, pn, pc, hA, q0, q1, sp, _⟩ := (HA.out.below HW.out).at_ hlt
      obtain ⟨bd, Q, qn, qc, hB, q2, sq⟩ := (HB.out.below HW.out).at_ (Nat.lt_of_lt_of_le hlt HNM.out)
      have hjq : j < qn := by rw [← sq.len]; exact HLL.out k hlt
      obtain ⟨cd, T, tn, tc, hQ, q3, q4, st, _⟩ := sq.at_ hjq
      rw [HXX.out k hlt] at q0 sp
      rw [HYY.out k hlt] at q3 st
      have HMK := hide (HM.out k hlt)
      have HDK := hide (HD.out k hlt)
      subst hA
      subst hB
      subst hQ
      rw [show bd.add k = bd.add (k * 1) by rw [Nat.mul_one]] at q2
      dsimp only [cP] at q0 sp q3 st
      generalize X k * Y k = xy at *
      generalize X k = x at *
      generalize Y k = y at *
      have hb : Below wr.heap.size wr (wr.alloc (.cells #[.int .i64 (LP.canon x).1, .slice P pn pc] 24)) := (Below.refl _ _).alloc (Nat.le_refl _) _
      have Q2 := hide ((hb.cell (p := bd.add (k * 1)) (cell_lt q2)).trans q2)
      have Q3 := hide ((hb.cell (p := cd.add (j * 2)) (cell_lt q3)).trans q3)
      have Q4 := hide ((hb.cell (p := ⟨(cd.add (j * 2)).block, (cd.add (j * 2)).off + 1, none⟩) (cell_lt q4)).trans q4)
      have SP := hide (sp.below hb)
      have ST := hide (st.below hb)
      replace SR := hide (SR.out.below hb)
      replace HW := hide (HW.out.trans (hb.mono HW.out.size))
      have l6 := K6.out.lt
      have l7 := K7.out.lt
      replace K6 := hide (K6.out.below hb l6)
      replace K7 := hide (K7.out.below hb l7)
      have BP := hide (Blk.new wr 24 #[.int .i64 (LP.canon x).1, .slice P pn pc])
      have HJQ := hide hjq
      have HKM := hide (Nat.lt_of_lt_of_le hlt HNM.out)
      clear sp st sq q2 q3 q4 hb hjq l6 l7
      go_upto_region 5 with fail
      obtain ⟨bp, hq⟩ : ∃ q, wr.heap.size = q := ⟨_, rfl⟩
      obtain ⟨w1, hw⟩ : ∃ wq, wr.alloc (.cells #[.int .i64 (LP.canon x).1, .slice P pn pc] 24) = wq := ⟨_, rfl⟩
      rw [hw] at Q2 Q3 Q4 SP ST SR HW K6 K7 BP ⊢
      rw [hq] at BP ⊢
      clear hw hq q0 q1
      have LP0 := hide BP.out.lt
      obtain ⟨g3, o3, h3⟩ := cell_at_var Q3.out
      rw [h3] at Q3 Q4
      have HL2 := hide (cell_lt Q2.out)
      have HL3 := hide (cell_lt Q3.out)
      go_cut [10, 11, 19, 20, 21, 22, 23, 24, 25, 26, 27, 28, 29, 30] (fun v u _ _ _ _ _ _ _ _ _ _ _ _ wx => ∃ bG G gn gc, v = .pointer (some ⟨bG, 0, none⟩) ∧ u = .int .i64 0 ∧ Blk wx bG 24 #[.int .i64 (LP.canon xy).1, .slice G gn gc] ∧ SL wx G gn gc (LP.canon xy).2 ∧ Below w1.heap.size w1 wx)
      case first =>
        refine wp_region_noPanic ?_
        refine wp_region_held_drew (S := fun x => Below w1.heap.size w1 x) (by kernel_rfl) (Below.refl _ _).drew (fun hS0 => ?_)
        refine wpAnyH_tk 0 (v := PV (LP.canon x).1 P pn pc) rfl (by kernel_rfl) (by kernel_rfl) (by kernel_rfl) (yi rfl fun w' hw' => gives_loadRow rfl rfl (BP.out.below hw' LP0.out) Try.underlying24 (by kernel_rfl) (by kernel_rfl)) hS0 ?_
        go_frame
        refine wpAnyH_tk 1 (v := .slice (some bd) m d) rfl (by kernel_rfl) (by kernel_rfl) (by kernel_rfl) (yi rfl fun w' hw' => gives_move (.inl rfl) rfl) hS0 ?_
        go_frame
        refine wpAnyH_tk 2 (v := .int .i64 k) rfl (by kernel_rfl) (by kernel_rfl) (by kernel_rfl) (yi rfl fun w' hw' => gives_move (.inl rfl) rfl) hS0 ?_
        go_frame
        refine wpAnyH_tk 3 (v := .pointer (some (bd.add (k * 1)))) rfl (by kernel_rfl) (by kernel_rfl) (by kernel_rfl) (yi rfl fun w' hw' => gives_indexSlice rfl Try.underlying41 (fun w => by kernel_rfl) rfl rfl HKM.out) hS0 ?_
        go_frame
        refine wpAnyH_tk 4 (v := .slice (some cd) qn qc) rfl (by kernel_rfl) (by kernel_rfl) (by kernel_rfl) (yi rfl fun w' hw' => gives_load1 rfl (by kernel_rfl) rfl ((hw'.cell (p := bd.add (k * 1)) HL2.out).trans Q2.out)) hS0 ?_
        go_frame
        refine wpAnyH_tk 5 (v := .int .i64 j) rfl (by kernel_rfl) (by kernel_rfl) (by kernel_rfl) (yi rfl fun w' hw' => gives_move (.inl rfl) rfl) hS0 ?_
        go_frame
        refine wpAnyH_tk 6 (v := .pointer (some (cd.add (j * 2)))) rfl (by kernel_rfl) (by kernel_rfl) (by kernel_rfl) (yi rfl fun w' hw' => gives_indexSlice rfl Try.underlying60 (fun w => by kernel_rfl) rfl rfl HJQ.out) hS0 ?_
        go_frame
        rw [h3]
        refine wpAnyH_tk 7 (v := PV (LP.canon y).1 T tn tc) rfl (by kernel_rfl) (by kernel_rfl) (by kernel_rfl) (yi rfl fun w' hw' => gives_loadMid (cs := [.int .i64 (LP.canon y).1, .slice T tn tc]) rfl rfl (rangeAt_two ((hw'.cell (p := ⟨g3, o3, none⟩) HL3.out).trans Q3.out) ((hw'.cell (p := ⟨g3, o3 + 1, none⟩) HL3.out).trans Q4.out)) Try.underlying24 (by kernel_rfl) (by kernel_rfl)) hS0 ?_
        go_frame
        refine wpAnyH_2 8 12 rfl rfl (by kernel_rfl) ?_ ?_
        · refine wp_call [PV (LP.canon x).1 P pn pc, PV (LP.canon y).1 T tn tc] rfl rfl eAlMul rfl ((HMK.out w1.drew P pn pc T tn tc (SP.out.below hS0) (ST.out.below hS0)).mono ?_)
          rintro e u1 ⟨G, gn, gc, rfl, hs, hN, hb⟩
          dsimp only at hs ⊢
          have hS1 : Below w1.heap.size w1 u1 := hS0.trans (hb.mono hS0.size)
          have SG := hide hs
          clear hb hs
          refine ⟨_, rfl, hS1, ?_⟩
          go_frame
          refine wpAnyH_tk 9 (v := .tuple #[PV (LP.canon xy).1 G gn gc, .int .i64 0]) rfl (by kernel_rfl) (by kernel_rfl) (by kernel_rfl) (yi rfl fun w' hw' => gives_move (.inl rfl) rfl) hS1 ?_
          go_frame
          refine wpAnyH_tk 10 (v := PV (LP.canon xy).1 G gn gc) rfl (by kernel_rfl) (by kernel_rfl) (by kernel_rfl) (yi rfl fun w' hw' => gives_extract rfl rfl rfl) hS1 ?_
          go_frame
          refine wpAnyH_tk 11 (v := .int .i64 0) rfl (by kernel_rfl) (by kernel_rfl) (by kernel_rfl) (yi rfl fun w' hw' => gives_extract rfl rfl rfl) hS1 ?_
          go_frame
          refine wpAnyH_1 12 rfl (by kernel_rfl) ?_
          have hS2 : Below w1.heap.size w1 (u1.alloc (.cells #[.int .i64 0, .slice none 0 0] 24)) := hS1.alloc hS1.size _
          have hb : Below u1.heap.size u1 (u1.alloc (.cells #[.int .i64 0, .slice none 0 0] 24)) := (Below.refl _ _).alloc (Nat.le_refl _) _
          have g_bG : w1.heap.size ≤ u1.heap.size := hS1.size
          have ne_bG : 0 < gn → ∀ ad, G = some ad → ad.block ≠ u1.heap.size := fun h ad e => by obtain ⟨ad2, e2, hl, _⟩ := SG.out.il.mem h; rw [e] at e2; cases e2; omega
          replace SG := hide (SG.out.below hb)
          have BG := hide (Blk.new u1 24 #[.int .i64 0, .slice none 0 0])
          refine wp_alloc (z := .agg #[.int .i64 0, .slice none 0 0]) (cs := #[.int .i64 0, .slice none 0 0]) rfl (by kernel_rfl) rfl ⟨hS2, ?_⟩
          obtain ⟨bG, hq⟩ : ∃ q, u1.heap.size = q := ⟨_, rfl⟩
          rw [hq] at BG g_bG ne_bG ⊢
          obtain ⟨u2, hw⟩ : ∃ x, u1.alloc (.cells #[.int .i64 0, .slice none 0 0] 24) = x := ⟨_, rfl⟩
          rw [hw] at hS2 BG SG ⊢
          clear hb hw hq
          go_frame
          refine wpAnyH_1 13 rfl (by kernel_rfl) ?_
          have hS3 : Below w1.heap.size w1 (u2.setRow bG #[.int .i64 (LP.canon xy).1, .slice G gn gc]) := Below.setRow_ hS2 g_bG _
          refine wp_storeRow rfl rfl rfl BG.out (by kernel_rfl) rfl (by kernel_rfl) ⟨hS3, ?_⟩
          replace SG := hide (SG.out.setRow_ ne_bG #[.int .i64 (LP.canon xy).1, .slice G gn gc])
          have hbk2 : Blk (u2.setRow bG #[.int .i64 (LP.canon xy).1, .slice G gn gc]) bG 24 #[.int .i64 (LP.canon xy).1, .slice G gn gc] := setRow_heap _ _ _ _ _ _ BG.out
          replace BG := hide hbk2
          clear hbk2
          go_frame
          refine wpAnyH_tk 14 (v := .int .i64 0) rfl (by kernel_rfl) (by kernel_rfl) (by kernel_rfl) (yi rfl fun w' hw' => gives_move (.inr rfl) rfl) hS3 ?_
          go_frame
          refine wpAnyH_done (by kernel_rfl) (noPanic_mk ?_) _
          go_wp2_with fail
          go_meet
          exact ⟨bG, G, gn, gc, rfl, rfl, BG.out, SG.out, hS3⟩
        · have hS4 : Below w1.heap.size w1 (w1.drew.alloc (.cells #[.int .i64 0, .slice none 0 0] 24)) := hS0.alloc hS0.size _
          have hb : Below w1.drew.heap.size w1.drew (w1.drew.alloc (.cells #[.int .i64 0, .slice none 0 0] 24)) := (Below.refl _ _).alloc (Nat.le_refl _) _
          have g_bG : w1.heap.size ≤ w1.drew.heap.size := hS0.size
          have BG := hide (Blk.new w1.drew 24 #[.int .i64 0, .slice none 0 0])
          refine wp_alloc (z := .agg #[.int .i64 0, .slice none 0 0]) (cs := #[.int .i64 0, .slice none 0 0]) rfl (by kernel_rfl) rfl ⟨hS4, ?_⟩
          obtain ⟨bG, hq⟩ : ∃ q, w1.drew.heap.size = q := ⟨_, rfl⟩
          rw [hq] at BG g_bG  ⊢
          obtain ⟨u4, hw⟩ : ∃ x, w1.drew.alloc (.cells #[.int .i64 0, .slice none 0 0] 24) = x := ⟨_, rfl⟩
          rw [hw] at hS4 BG ⊢
          clear hb hw hq
          go_frame
          refine wpAnyH_1 8 rfl (by kernel_rfl) ?_
          refine wp_call [PV (LP.canon x).1 P pn pc, PV (LP.canon y).1 T tn tc] rfl rfl eAlMul rfl ((HMK.out u4 P pn pc T tn tc (SP.out.below hS4) (ST.out.below hS4)).mono ?_)
          rintro e u5 ⟨G, gn, gc, rfl, hs, hN, hb⟩
          dsimp only at hs ⊢
          have hS5 : Below w1.heap.size w1 u5 := hS4.trans (hb.mono hS4.size)
          have ne_bG : 0 < gn → ∀ ad, G = some ad → ad.block ≠ bG := fun h ad e => by have := hN h ad e; have := BG.out.lt; omega
          replace BG := hide (BG.out.below hb BG.out.lt)
          have SG := hide hs
          clear hb hs
          refine ⟨_, rfl, hS5, ?_⟩
          go_frame
          refine wpAnyH_tk 9 (v := .tuple #[PV (LP.canon xy).1 G gn gc, .int .i64 0]) rfl (by kernel_rfl) (by kernel_rfl) (by kernel_rfl) (yi rfl fun w' hw' => gives_move (.inl rfl) rfl) hS5 ?_
          go_frame
          refine wpAnyH_tk 10 (v := PV (LP.canon xy).1 G gn gc) rfl (by kernel_rfl) (by kernel_rfl) (by kernel_rfl) (yi rfl fun w' hw' => gives_extract rfl rfl rfl) hS5 ?_
          go_frame
          refine wpAnyH_tk 11 (v := .int .i64 0) rfl (by kernel_rfl) (by kernel_rfl) (by kernel_rfl) (yi rfl fun w' hw' => gives_extract rfl rfl rfl) hS5 ?_
          go_frame
          refine wpAnyH_1 13 rfl (by kernel_rfl) ?_
          have hS6 : Below w1.heap.size w1 (u5.setRow bG #[.int .i64 (LP.canon xy).1, .slice G gn gc]) := Below.setRow_ hS5 g_bG _
          refine wp_storeRow rfl rfl rfl BG.out (by kernel_rfl) rfl (by kernel_rfl) ⟨hS6, ?_⟩
          replace SG := hide (SG.out.setRow_ ne_bG #[.int .i64 (LP.canon xy).1, .slice G gn gc])
          have hbk2 : Blk (u5.setRow bG #[.int .i64 (LP.canon xy).1, .slice G gn gc]) bG 24 #[.int .i64 (LP.canon xy).1, .slice G gn gc] := setRow_heap _ _ _ _ _ _ BG.out
          replace BG := hide hbk2
          clear hbk2
          go_frame
          refine wpAnyH_tk 14 (v := .int .i64 0) rfl (by kernel_rfl) (by kernel_rfl) (by kernel_rfl) (yi rfl fun w' hw' => gives_move (.inr rfl) rfl) hS6 ?_
          go_frame
          refine wpAnyH_done (by kernel_rfl) (noPanic_mk ?_) _
          go_wp2_with fail
          go_meet
          exact ⟨bG, G, gn, gc, rfl, rfl, BG.out, SG.out, hS6⟩
      case rest =>
        obtain ⟨bG, G, gn, gc, rfl, rfl, hbk, hsl, hb⟩ := hcut
        have l6 := K6.out.lt
        have l7 := K7.out.lt
        replace SR := hide (SR.out.below hb)
        replace K6 := hide (K6.out.below hb l6)
        replace K7 := hide (K7.out.below hb l7)
        replace HW := hide (HW.out.trans (hb.mono HW.out.size))
        have l62 := K6.out.lt
        have l72 := K7.out.lt
        have BG := hide hbk
        have SG := hide hsl
        clear hb hbk hsl BP SP ST Q2 Q3 Q4 HL2 HL3 HMK l6 l7 LP0 HJQ HKM h3
        have c0 := K7.out.cell 0
        have c1 := K7.out.cell 1
        have d0 := BG.out.cell 0
        have d1 := BG.out.cell 1
        simp at c0 c1 d0 d1
        go_wp2_with fail
        refine (HDK.out _ R rn rc G gn gc SR.out SG.out).mono ?_
        rintro e w3 ⟨R', rn', rc', rfl, hs, hnw, hb⟩
        dsimp only at hs ⊢
        have HN2 : Hid (0 < rn' → ∀ ad, R' = some ad → b6 < ad.block ∧ b7 < ad.block) := hide (fun h ad e => by have := hnw h ad e; omega)
        replace K6 := hide (K6.out.below hb l62)
        replace K7 := hide (K7.out.below hb l72)
        replace HW := hide (HW.out.trans (hb.mono HW.out.size))
        have f6 : 0 < rn' → ∀ ad, R' = some ad → ad.block ≠ b7 := fun h ad e => by have := HN2.out h ad e; omega
        have SR2 := hide ((hs.setCell f6 0 (.int .i64 (LP.canon (S (k + 1))).1)).setCell f6 1 (.slice R' rn' rc'))
        have K62 := hide ((K6.out.far (p := ⟨b7, 0, none⟩) h67 (.int .i64 (LP.canon (S (k + 1))).1)).far (p := ⟨b7, 1, none⟩) h67 (.slice R' rn' rc'))
        have K72 : Hid (Blk ((w3.setCell ⟨b7, 0, none⟩ (.int .i64 (LP.canon (S (k + 1))).1)).setCell ⟨b7, 1, none⟩ (.slice R' rn' rc')) b7 24 #[.int .i64 (LP.canon (S (k + 1))).1, .slice R' rn' rc']) := hide ((K7.out.set_ 0 (.int .i64 (LP.canon (S (k + 1))).1)).set_ 1 (.slice R' rn' rc'))
        have HW2 := hide ((HW.out.setCell (p := ⟨b7, 0, none⟩) HWB.out.2 (.int .i64 (LP.canon (S (k + 1))).1)).setCell (p := ⟨b7, 1, none⟩) HWB.out.2 (.slice R' rn' rc'))
        have e0 := K7.out.cell 0
        have e1 := K7.out.cell 1
        have g0 := K7.out.frozen 0
        have g1 := K7.out.frozen 1
        simp at e0 e1
        have l73 := K7.out.lt
        clear hs hnw hb c0 c1 d0 d1 BG SG SR HDK l62 l72 f6 K6 K7 HW HN
        go_wp2_with fail
        go_roundw
        case rel => exact ⟨k + 1, R', rn', rc', by go_num, by omega, K62, K72, SR2, HN2, HW2⟩
        case measure => simp [intOf]; omega
    · have hkn : k = n := by omega
      subst hkn
      have c0 := K7.out.cell 0
      have c1 := K7.out.cell 1
      have c2 := K6.out.cell 0
      have c3 := K6.out.cell 1
      have f2 := K6.out.frozen 0
      have f3 := K6.out.frozen 1
      simp at c0 c1 c2 c3
      have l6 := K6.out.lt
      have hf : 0 < rn → ∀ ad, R = some ad → ad.block ≠ b6 := fun h ad e => by have := HN.out h ad e; omega
      have HF := hide hf
      clear hf hk hlt
      go_wp2_with fail
      refine bodyPost_ret (results_poly rfl _ rfl ((K6.out.set_ 0 (.int .i64 (LP.canon (S k)).1)).set_ 1 (.slice R rn rc))) rfl ?_
      refine ⟨R, rn, rc, rfl, (SR.out.setCell HF.out 0 _).setCell HF.out 1 _, fun h ad e => by have := HN.out h ad e; have := HWB.out; omega, ?_⟩
      exact (HW.out.setCell (p := ⟨b6, 0, none⟩) HWB.out.1 _).setCell (p := ⟨b6, 1, none⟩) HWB.out.1 _
end Go.Proofs.Ytgbipfohcailnaa
