/- Several texts in one. -/
import Derived.Test.YtndgffiihbdppaaDoorPart6
import Derived.Test.YtndgffiihbdppaaDoorPart11
import Derived.Test.YtndgffiihbdppaaDoorBase1
import Derived.Test.YtndgffiihbdppaaDoorPart1
/- Package braid: poly, block, sumOfProducts. -/
namespace Go.Proofs.YtndgffiihbdppaaDoor
set_option linter.unusedVariables false
set_option linter.unusedSimpArgs false
open Go.RowKit

set_option maxRecDepth 100000 in
set_option maxHeartbeats 2000000 in
theorem bpoly_any (lo : Int) (A : Option Addr) (n c : Nat) (w : World) : Calls Tryd.prog 77 #[.int .i64 lo, .slice A n c] w fun e w' => e = .returned (PV lo A n c) ∧ Below w.heap.size w w' := by
  have hb0 : Below w.heap.size w (w.alloc (.cells #[.int .i64 lo, .slice A n c] 50)) := (Below.refl _ _).alloc (Nat.le_refl _) _
  have HB0 := hide hb0
  have HK := hide (Blk.new w 50 #[.int .i64 lo, .slice A n c])
  clear hb0
  go_enter Tryd.func77, Tryd.ntmps77
  go_wp2_with fail
  refine bodyPost_ret (results_poly rfl _ rfl HK.out) rfl ?_
  exact ⟨rfl, HB0.out⟩

set_option maxRecDepth 100000 in
set_option maxHeartbeats 4000000 in
theorem sumP_any (F : PolyC) (x y z u : LP) (A : Option Addr) (n c : Nat) (B : Option Addr) (m d : Nat) (C : Option Addr) (l e : Nat) (D : Option Addr) (k f : Nat) (w : World) (ha : SL w A n c (LP.canon x).2) (hb : SL w B m d (LP.canon y).2) (hc : SL w C l e (LP.canon z).2) (hd : SL w D k f (LP.canon u).2)
    (rx : LP.Rt x) (ry : LP.Rt y) (rz : LP.Rt z) (ru : LP.Rt u) (rxy : LP.Rt (x * y)) (rzu : LP.Rt (z * u)) (rs : LP.Rt (x * y + z * u)) :
    Calls Tryd.prog 79 #[PV (LP.canon x).1 A n c, PV (LP.canon y).1 B m d, PV (LP.canon z).1 C l e, PV (LP.canon u).1 D k f] w (GivesP w (LP.canon (x * y + z * u)).1 (LP.canon (x * y + z * u)).2) := by
  have HM1 := hide (fun (w' : World) (h1 : SL w' A n c (LP.canon x).2) (h2 : SL w' B m d (LP.canon y).2) => F.mul (LP.canon x).1 A n c _ (LP.canon y).1 B m d _ w' h1 h2 rx.wf ry.wf)
  have HM2 := hide (fun (w' : World) (h1 : SL w' C l e (LP.canon z).2) (h2 : SL w' D k f (LP.canon u).2) => F.mul (LP.canon z).1 C l e _ (LP.canon u).1 D k f _ w' h1 h2 rz.wf ru.wf)
  have HA3 := hide (fun (w' : World) (P Q : Option Addr) (pn pc qn qc : Nat) (h1 : SL w' P pn pc (LP.canon (x * y)).2) (h2 : SL w' Q qn qc (LP.canon (z * u)).2) => F.add (LP.canon (x * y)).1 P pn pc _ (LP.canon (z * u)).1 Q qn qc _ w' h1 h2 rxy.wf rzu.wf)
  rw [LP.mulR_canon rx ry rxy] at HM1
  rw [LP.mulR_canon rz ru rzu] at HM2
  rw [LP.addR_canon rxy rzu rs] at HA3
  clear F rx ry rz ru rxy rzu rs
  generalize (LP.canon (x * y + z * u)).1 = ls at *
  generalize (LP.canon (x * y + z * u)).2 = cs at *
  generalize (LP.canon (x * y)).1 = lp at *
  generalize (LP.canon (x * y)).2 = cp at *
  generalize (LP.canon (z * u)).1 = lq at *
  generalize (LP.canon (z * u)).2 = cq at *
  generalize (LP.canon x).1 = lx at *
  generalize (LP.canon x).2 = cx at *
  generalize (LP.canon y).1 = ly at *
  generalize (LP.canon y).2 = cy at *
  generalize (LP.canon z).1 = lz at *
  generalize (LP.canon z).2 = cz at *
  generalize (LP.canon u).1 = lu at *
  generalize (LP.canon u).2 = cu at *
  obtain ⟨W0, hW0⟩ : ∃ W, ((((w.alloc (.cells #[.int .i64 lx, .slice A n c] 50)).alloc (.cells #[.int .i64 ly, .slice B m d] 50)).alloc (.cells #[.int .i64 lz, .slice C l e] 50)).alloc (.cells #[.int .i64 lu, .slice D k f] 50)).alloc (.cells #[.int .i64 0, .slice none 0 0] 50) = W := ⟨_, rfl⟩
  have hs0 : W0.heap.size = w.heap.size + 5 := by rw [← hW0]; simp
  have hb0 : Below w.heap.size w W0 := by
    rw [← hW0]
    exact (((((Below.refl _ _).alloc (Nat.le_refl _) _).alloc (by simp) _).alloc (by simp; omega) _).alloc (by simp; omega) _).alloc (by simp; omega) _
  have B1 : Blk W0 w.heap.size 50 #[.int .i64 lx, .slice A n c] := by rw [← hW0]; exact (((Blk.new w _ _).alloc _).alloc _).alloc _ |>.alloc _
  have B2 : Blk W0 (w.heap.size + 1) 50 #[.int .i64 ly, .slice B m d] := by
    rw [← hW0]
    have h := ((Blk.new (w.alloc (.cells #[.int .i64 lx, .slice A n c] 50)) 50 #[.int .i64 ly, .slice B m d]).alloc (.cells #[.int .i64 lz, .slice C l e] 50)).alloc (.cells #[.int .i64 lu, .slice D k f] 50) |>.alloc (.cells #[.int .i64 0, .slice none 0 0] 50)
    simpa using h
  have B3 : Blk W0 (w.heap.size + 1 + 1) 50 #[.int .i64 lz, .slice C l e] := by
    rw [← hW0]
    have h := (Blk.new ((w.alloc (.cells #[.int .i64 lx, .slice A n c] 50)).alloc (.cells #[.int .i64 ly, .slice B m d] 50)) 50 #[.int .i64 lz, .slice C l e]).alloc (.cells #[.int .i64 lu, .slice D k f] 50) |>.alloc (.cells #[.int .i64 0, .slice none 0 0] 50)
    simpa using h
  have B4 : Blk W0 (w.heap.size + 1 + 1 + 1) 50 #[.int .i64 lu, .slice D k f] := by
    rw [← hW0]
    have h := (Blk.new (((w.alloc (.cells #[.int .i64 lx, .slice A n c] 50)).alloc (.cells #[.int .i64 ly, .slice B m d] 50)).alloc (.cells #[.int .i64 lz, .slice C l e] 50)) 50 #[.int .i64 lu, .slice D k f]).alloc (.cells #[.int .i64 0, .slice none 0 0] 50)
    simpa using h
  have B5 : Blk W0 (w.heap.size + 1 + 1 + 1 + 1) 50 #[.int .i64 0, .slice none 0 0] := by
    rw [← hW0]
    have h := Blk.new ((((w.alloc (.cells #[.int .i64 lx, .slice A n c] 50)).alloc (.cells #[.int .i64 ly, .slice B m d] 50)).alloc (.cells #[.int .i64 lz, .slice C l e] 50)).alloc (.cells #[.int .i64 lu, .slice D k f] 50)) 50 #[.int .i64 0, .slice none 0 0]
    simpa using h
  have HS1 := hide (ha.below hb0)
  have HS2 := hide (hb.below hb0)
  have HS3 := hide (hc.below hb0)
  have HS4 := hide (hd.below hb0)
  have HW := hide hb0
  have K1 := hide B1
  have K2 := hide B2
  have K3 := hide B3
  have K4 := hide B4
  have K5 := hide B5
  clear ha hb hc hd hb0 B1 B2 B3 B4 B5
  go_enter Tryd.func79, Tryd.ntmps79
  go_upto_region 1 with fail
  clear hW0
  obtain ⟨b1, hb1⟩ : ∃ b, w.heap.size = b := ⟨_, rfl⟩
  rw [hb1] at K1 K2 K3 K4 K5 hs0 ⊢
  have HZ := hide hb1
  clear hb1
  obtain ⟨b2, hb2⟩ : ∃ b, b1 + 1 = b := ⟨_, rfl⟩
  rw [hb2] at K2 K3 K4 K5 ⊢
  obtain ⟨b3, hb3⟩ : ∃ b, b2 + 1 = b := ⟨_, rfl⟩
  rw [hb3] at K3 K4 K5 ⊢
  obtain ⟨b4, hb4⟩ : ∃ b, b3 + 1 = b := ⟨_, rfl⟩
  rw [hb4] at K4 K5 ⊢
  obtain ⟨b5, hb5⟩ : ∃ b, b4 + 1 = b := ⟨_, rfl⟩
  rw [hb5] at K5 ⊢
  have q1 : b1 < W0.heap.size := by omega
  have q2 : b2 < W0.heap.size := by omega
  have q3 : b3 < W0.heap.size := by omega
  have q4 : b4 < W0.heap.size := by omega
  have q5 : b5 < W0.heap.size := by omega
  have p1 : b1 < b5 := by omega
  have p2 : b1 ≤ b5 := by omega
  clear hb2 hb3 hb4 hb5 hs0
  have c10 := K1.out.cell 0
  have c11 := K1.out.cell 1
  have c20 := K2.out.cell 0
  have c21 := K2.out.cell 1
  simp at c10 c11 c20 c21
  go_wp2_with fail
  refine (HM1.out W0 HS1.out HS2.out).mono ?_
  rintro e1 w1 ⟨P, pn, pc, rfl, hs, hnw, hb⟩
  have HP := hide (hs.below ((Below.refl w1.heap.size w1).alloc (Nat.le_refl _) (.cells #[.int .i64 lp, .slice P pn pc] 50)))
  have hb1 := hb.trans (((Below.refl w1.heap.size w1).alloc (Nat.le_refl _) (.cells #[.int .i64 lp, .slice P pn pc] 50)).mono hb.size)
  have K6 := hide (Blk.new w1 50 #[.int .i64 lp, .slice P pn pc])
  replace K3 := hide (K3.out.below hb1 q3)
  replace K4 := hide (K4.out.below hb1 q4)
  replace K5 := hide (K5.out.below hb1 q5)
  replace HS3 := hide (HS3.out.below hb1)
  replace HS4 := hide (HS4.out.below hb1)
  replace HW := hide (HW.out.trans (hb1.mono HW.out.size))
  have r5 : b5 < w1.heap.size := by have := hb.size; omega
  have r1 : b1 ≤ w1.heap.size := by omega
  clear K1 K2 HS1 HS2 hb1 hb hs hnw c10 c11 c20 c21 HM1 q1 q2 q3 q4 q5
  go_upto_region 2 with fail
  obtain ⟨b6, hb6⟩ : ∃ b, w1.heap.size = b := ⟨_, rfl⟩
  obtain ⟨W1, hW1⟩ : ∃ W, w1.alloc (.cells #[.int .i64 lp, .slice P pn pc] 50) = W := ⟨_, rfl⟩
  have q6 : b6 < W1.heap.size := by rw [← hW1, ← hb6]; simp
  rw [hb6] at K6 r5 r1 ⊢
  rw [hW1] at K6 K3 K4 K5 HS3 HS4 HW HP ⊢
  clear hb6 hW1
  have c10 := K3.out.cell 0
  have c11 := K3.out.cell 1
  have c20 := K4.out.cell 0
  have c21 := K4.out.cell 1
  simp at c10 c11 c20 c21
  go_wp2_with fail
  refine (HM2.out W1 HS3.out HS4.out).mono ?_
  rintro e1 w2 ⟨Q, qn, qc, rfl, hs, hnw, hb⟩
  have HQ := hide (hs.below ((Below.refl w2.heap.size w2).alloc (Nat.le_refl _) (.cells #[.int .i64 lq, .slice Q qn qc] 50)))
  have hb1 := hb.trans (((Below.refl w2.heap.size w2).alloc (Nat.le_refl _) (.cells #[.int .i64 lq, .slice Q qn qc] 50)).mono hb.size)
  have K7 := hide (Blk.new w2 50 #[.int .i64 lq, .slice Q qn qc])
  replace K6 := hide (K6.out.below hb1 q6)
  replace K5 := hide (K5.out.below hb1 (by omega))
  replace HP := hide (HP.out.below hb1)
  replace HW := hide (HW.out.trans (hb1.mono HW.out.size))
  have r6 : b6 < w2.heap.size := by have := hb.size; omega
  clear K3 K4 HS3 HS4 hb1 hb hs hnw c10 c11 c20 c21 HM2 q6
  go_upto_region 3 with fail
  obtain ⟨b7, hb7⟩ : ∃ b, w2.heap.size = b := ⟨_, rfl⟩
  obtain ⟨W2, hW2⟩ : ∃ W, w2.alloc (.cells #[.int .i64 lq, .slice Q qn qc] 50) = W := ⟨_, rfl⟩
  have q7 : b7 < W2.heap.size := by rw [← hW2, ← hb7]; simp
  rw [hb7] at K7 r6 ⊢
  rw [hW2] at K7 K6 K5 HP HQ HW ⊢
  clear hb7 hW2
  have c10 := K6.out.cell 0
  have c11 := K6.out.cell 1
  have c20 := K7.out.cell 0
  have c21 := K7.out.cell 1
  simp at c10 c11 c20 c21
  go_wp2_with fail
  refine (HA3.out W2 _ _ _ _ _ _ HP.out HQ.out).mono ?_
  rintro e1 w3 ⟨R, rn, rc, rfl, hs, hnw, hb⟩
  have HR := hide (hs.below ((Below.refl w3.heap.size w3).alloc (Nat.le_refl _) (.cells #[.int .i64 ls, .slice R rn rc] 50)))
  have hb1 := hb.trans (((Below.refl w3.heap.size w3).alloc (Nat.le_refl _) (.cells #[.int .i64 ls, .slice R rn rc] 50)).mono hb.size)
  have K8 := hide (Blk.new w3 50 #[.int .i64 ls, .slice R rn rc])
  replace K5 := hide (K5.out.below hb1 (by omega))
  replace HW := hide (HW.out.trans (hb1.mono HW.out.size))
  have HN : Hid (0 < rn → ∀ ad, R = some ad → b7 < ad.block) := hide (fun h ad e => by have := hnw h ad e; omega)
  have r7 : b7 < w3.heap.size := by have := hb.size; omega
  clear K6 K7 HP HQ hb1 hb hs hnw c10 c11 c20 c21 HA3 q7
  go_upto_region 4 with fail
  obtain ⟨b8, hb8⟩ : ∃ b, w3.heap.size = b := ⟨_, rfl⟩
  obtain ⟨W3, hW3⟩ : ∃ W, w3.alloc (.cells #[.int .i64 ls, .slice R rn rc] 50) = W := ⟨_, rfl⟩
  rw [hb8] at K8 r7 ⊢
  rw [hW3] at K8 K5 HR HW ⊢
  clear hb8 hW3
  have c10 := K8.out.cell 0
  have c11 := K8.out.cell 1
  have c20 := K5.out.cell 0
  have c21 := K5.out.cell 1
  have f20 := K5.out.frozen 0
  have f21 := K5.out.frozen 1
  simp at c10 c11 c20 c21
  go_wp2_with fail
  refine bodyPost_ret (results_poly rfl _ rfl ((K5.out.set_ 0 (.int .i64 ls)).set_ 1 (.slice R rn rc))) rfl ?_
  refine ⟨R, rn, rc, rfl, ?_, fun h ad e => by have := HN.out h ad e; have := HZ.out; omega, ?_⟩
  · exact (HR.out.setCell (fun h ad e => by have := HN.out h ad e; omega) 0 _).setCell (fun h ad e => by have := HN.out h ad e; omega) 1 _
  · exact (HW.out.setCell (p := ⟨b5, 0, none⟩) (by show w.heap.size ≤ b5; rw [HZ.out]; exact p2) _).setCell (p := ⟨b5, 1, none⟩) (by show w.heap.size ≤ b5; rw [HZ.out]; exact p2) _
end Go.Proofs.YtndgffiihbdppaaDoor
/- A row stored into a block: what lies elsewhere stays. -/
namespace Go.Proofs.YtndgffiihbdppaaDoor
set_option linter.unusedVariables false
set_option linter.unusedSimpArgs false
open Go.RowKit

theorem SL.setRow_ {w : World} {A : Option Addr} {n c : Nat} {xs : List Int} (h : SL w A n c xs) {b : Nat} (hb : 0 < n → ∀ ad, A = some ad → ad.block ≠ b) (cs : Array Value) : SL (w.setRow b cs) A n c xs :=
  ⟨⟨h.il.len, h.il.small, fun hn => by
    obtain ⟨ad, e, hl, hc⟩ := h.il.mem hn
    refine ⟨ad, e, by simpa using hl, fun j hj => ?_⟩
    rw [← hc j hj]
    exact cell_setRow_other w b cs (ad.add j) (by rw [block_of_add]; exact hb hn ad e)⟩, h.nil, h.cap⟩
theorem Below.setRow_ {B g : Nat} {w0 w : World} (hb : Below B w0 w) (hBg : B ≤ g) (cs : Array Value) : Below B w0 (w.setRow g cs) :=
  ⟨hb.os, hb.tape, hb.output, by simpa using hb.size, fun k hk => (setRow_other _ _ _ _ (by omega)).trans (hb.block k hk)⟩
end Go.Proofs.YtndgffiihbdppaaDoor
/- Package braid: block. -/
namespace Go.Proofs.YtndgffiihbdppaaDoor
set_option linter.unusedVariables false
set_option linter.unusedSimpArgs false
open Go.RowKit

def e00 (x : Int) : LP := if 0 < x then 1 + -tT else 0
def e01 (x : Int) : LP := if 0 < x then tT else 1
def e10 (x : Int) : LP := if 0 < x then 1 else tI
def e11 (x : Int) : LP := if 0 < x then 0 else 1 + -tI
theorem canon_zero : LP.canon 0 = (0, []) := LP.canon_eq (.inl ⟨rfl, rfl⟩) rfl
theorem canon_one : LP.canon 1 = (0, [1]) := LP.canon_eq (.inr ⟨by simp, by decide, by decide⟩) (by unfold LP.of; rfl)
theorem canon_tT : LP.canon tT = (1, [1]) := LP.canon_eq (.inr ⟨by simp, by decide, by decide⟩) (by unfold LP.of; rfl)
theorem canon_tI : LP.canon tI = (-1, [1]) := LP.canon_eq (.inr ⟨by simp, by decide, by decide⟩) (by unfold LP.of; rfl)
theorem canon_one_tT : LP.canon (1 + -tT) = (0, [1, -1]) := LP.canon_eq (.inr ⟨by simp, by decide, by decide⟩) (by unfold LP.of; rfl)
theorem canon_one_tI : LP.canon (1 + -tI) = (-1, [-1, 1]) := LP.canon_eq (.inr ⟨by simp, by decide, by decide⟩) (by unfold LP.of; rw [CR.add_comm]; rfl)
/-- The four polynomials of a letter. -/
def GivesB (w : World) (x : Int) (e : Ending) (w' : World) : Prop :=
  ∃ A n c B m d C l f D k g, e = .returned (.agg #[.int .i64 (LP.canon (e00 x)).1, .slice A n c, .int .i64 (LP.canon (e01 x)).1, .slice B m d, .int .i64 (LP.canon (e10 x)).1, .slice C l f, .int .i64 (LP.canon (e11 x)).1, .slice D k g]) ∧
    SL w' A n c (LP.canon (e00 x)).2 ∧ SL w' B m d (LP.canon (e01 x)).2 ∧ SL w' C l f (LP.canon (e10 x)).2 ∧ SL w' D k g (LP.canon (e11 x)).2 ∧ NewA w B m ∧ NewA w D k ∧ Below w.heap.size w w'
theorem eBpoly : ∀ args w, (callFunc 77 args).run Tryd.prog w = .ok (.enter 77 args) w := enters (fn := Tryd.f77) (by kernel_rfl) (by kernel_rfl) (by kernel_rfl)

set_option maxRecDepth 100000 in
theorem results_sq {fn : Func} {t : Tmp} {b : Nat} {v0 v1 v2 v3 v4 v5 v6 v7 : Value} {w : World} (h : fn.results = #[.cell t 106]) (tmps : Array Value) (ht : tmps.getD t undef = .pointer (some ⟨b, 0, none⟩)) (hb : Blk w b 106 #[v0, v1, v2, v3, v4, v5, v6, v7]) :
    (results fn tmps).run Tryd.prog w = .ok (.agg #[v0, v1, v2, v3, v4, v5, v6, v7]) w := by
  have h0 := hb.cell 0
  have h1 := hb.cell 1
  have h2 := hb.cell 2
  have h3 := hb.cell 3
  have h4 := hb.cell 4
  have h5 := hb.cell 5
  have h6 := hb.cell 6
  have h7 := hb.cell 7
  simp at h0 h1 h2 h3 h4 h5 h6 h7
  have ht2 : tmps[t]?.getD undef = .pointer (some ⟨b, 0, none⟩) := by simpa using ht
  simp [results, h, ht2, go_sem, h0, h1, h2, h3, h4, h5, h6, h7, Result.andThen]

set_option maxRecDepth 100000 in
set_option maxHeartbeats 4000000 in
theorem block_pos (x : Int) (w : World) (h0 : 0 < x) : Calls Tryd.prog 78 #[.int .i64 x] w (GivesB w x) := by
  have hW0 : Below w.heap.size w (w.alloc (.cells #[.int .i64 0, .slice none 0 0, .int .i64 0, .slice none 0 0, .int .i64 0, .slice none 0 0, .int .i64 0, .slice none 0 0] 106)) := (Below.refl _ _).alloc (Nat.le_refl _) _
  have HW := hide hW0
  have HK := hide (Blk.new w 106 #[.int .i64 0, .slice none 0 0, .int .i64 0, .slice none 0 0, .int .i64 0, .slice none 0 0, .int .i64 0, .slice none 0 0])
  go_enter Tryd.func78, Tryd.ntmps78
  go_upto_region 2 with fail
  obtain ⟨W0, hw0⟩ : ∃ W, w.alloc (.cells #[.int .i64 0, .slice none 0 0, .int .i64 0, .slice none 0 0, .int .i64 0, .slice none 0 0, .int .i64 0, .slice none 0 0] 106) = W := ⟨_, rfl⟩
  have hz0 : w.heap.size < W0.heap.size := by rw [← hw0]; simp
  rw [hw0] at HW HK ⊢
  obtain ⟨b0, hb0⟩ : ∃ b, w.heap.size = b := ⟨_, rfl⟩
  rw [hb0] at hz0 HK ⊢
  have HZ := hide hb0
  clear hw0 hb0 hW0
  go_wp2_with fail
  have hl := SL.lit W0 [1, -1] (by decide) (cs := #[.int .i64 1, .int .i64 (-1)]) rfl (m := 2) rfl
  have hb := (Below.refl W0.heap.size W0).alloc (Nat.le_refl _) (.cells #[.int .i64 1, .int .i64 (-1)] 3)
  obtain ⟨V1, hV⟩ : ∃ V, W0.alloc (.cells #[.int .i64 1, .int .i64 (-1)] 3) = V := ⟨_, rfl⟩
  rw [hV] at hl hb ⊢
  refine (bpoly_any 0 _ _ _ V1).mono ?_
  rintro e W1 ⟨rfl, hc⟩
  have hbc := hb.trans (hc.mono hb.size)
  have HS1 := hide (hl.below hc)
  replace HW := hide (HW.out.trans (hbc.mono HW.out.size))
  replace HK := hide (HK.out.below hbc (by omega))
  have hz1 : b0 < W1.heap.size := by have := hbc.size; omega
  clear hl hb hc hbc hV
  go_wp2_with fail
  have hl := SL.lit W1 [1] (by decide) (cs := #[.int .i64 1]) rfl (m := 1) rfl
  have hb := (Below.refl W1.heap.size W1).alloc (Nat.le_refl _) (.cells #[.int .i64 1] 3)
  obtain ⟨V2, hV⟩ : ∃ V, W1.alloc (.cells #[.int .i64 1] 3) = V := ⟨_, rfl⟩
  rw [hV] at hl hb ⊢
  refine (bpoly_any 1 _ _ _ V2).mono ?_
  rintro e W2 ⟨rfl, hc⟩
  have hbc := hb.trans (hc.mono hb.size)
  have HS2 := hide (hl.below hc)
  replace HS1 := hide (HS1.out.below hbc)
  replace HW := hide (HW.out.trans (hbc.mono HW.out.size))
  replace HK := hide (HK.out.below hbc (by omega))
  have hz2 : b0 < W2.heap.size := by have := hbc.size; omega
  clear hl hb hc hbc hV
  go_wp2_with fail
  have hl := SL.lit W2 [1] (by decide) (cs := #[.int .i64 1]) rfl (m := 1) rfl
  have hb := (Below.refl W2.heap.size W2).alloc (Nat.le_refl _) (.cells #[.int .i64 1] 3)
  obtain ⟨V3, hV⟩ : ∃ V, W2.alloc (.cells #[.int .i64 1] 3) = V := ⟨_, rfl⟩
  rw [hV] at hl hb ⊢
  refine (bpoly_any 0 _ _ _ V3).mono ?_
  rintro e W3 ⟨rfl, hc⟩
  have hbc := hb.trans (hc.mono hb.size)
  have HS3 := hide (hl.below hc)
  replace HS1 := hide (HS1.out.below hbc)
  replace HS2 := hide (HS2.out.below hbc)
  replace HW := hide (HW.out.trans (hbc.mono HW.out.size))
  replace HK := hide (HK.out.below hbc (by omega))
  have hz3 : b0 < W3.heap.size := by have := hbc.size; omega
  clear hl hb hc hbc hV
  have f0 := HK.out.frozen 0
  have g0 := HK.out.cell 0
  have f1 := HK.out.frozen 1
  have g1 := HK.out.cell 1
  have f2 := HK.out.frozen 2
  have g2 := HK.out.cell 2
  have f3 := HK.out.frozen 3
  have g3 := HK.out.cell 3
  have f4 := HK.out.frozen 4
  have g4 := HK.out.cell 4
  have f5 := HK.out.frozen 5
  have g5 := HK.out.cell 5
  have f6 := HK.out.frozen 6
  have g6 := HK.out.cell 6
  have f7 := HK.out.frozen 7
  have g7 := HK.out.cell 7
  simp at g0 g1 g2 g3 g4 g5 g6 g7
  go_wp2_with fail
  refine bodyPost_ret (results_sq rfl _ rfl ((((((((HK.out.set_ 0 (.int .i64 0)).set_ 1 (.slice (some ⟨W0.heap.size, 0, none⟩) 2 2)).set_ 2 (.int .i64 1)).set_ 3 (.slice (some ⟨W1.heap.size, 0, none⟩) 1 1)).set_ 4 (.int .i64 0)).set_ 5 (.slice (some ⟨W2.heap.size, 0, none⟩) 1 1)).set_ 6 (.int .i64 0)).set_ 7 (.slice none 0 0))) rfl ?_
  have n0 : ∀ {m : Nat}, 0 < m → ∀ ad, some (⟨W0.heap.size, 0, none⟩ : Addr) = some ad → ad.block ≠ b0 := fun _ ad e => by injection e with e; subst e; show W0.heap.size ≠ b0; omega
  have n1 : ∀ {m : Nat}, 0 < m → ∀ ad, some (⟨W1.heap.size, 0, none⟩ : Addr) = some ad → ad.block ≠ b0 := fun _ ad e => by injection e with e; subst e; show W1.heap.size ≠ b0; omega
  have n2 : ∀ {m : Nat}, 0 < m → ∀ ad, some (⟨W2.heap.size, 0, none⟩ : Addr) = some ad → ad.block ≠ b0 := fun _ ad e => by injection e with e; subst e; show W2.heap.size ≠ b0; omega
  have y1 := ((((((((HS1.out.setCell n0 0 (.int .i64 0)).setCell n0 1 (.slice (some ⟨W0.heap.size, 0, none⟩) 2 2)).setCell n0 2 (.int .i64 1)).setCell n0 3 (.slice (some ⟨W1.heap.size, 0, none⟩) 1 1)).setCell n0 4 (.int .i64 0)).setCell n0 5 (.slice (some ⟨W2.heap.size, 0, none⟩) 1 1)).setCell n0 6 (.int .i64 0)).setCell n0 7 (.slice none 0 0))
  have y2 := ((((((((HS2.out.setCell n1 0 (.int .i64 0)).setCell n1 1 (.slice (some ⟨W0.heap.size, 0, none⟩) 2 2)).setCell n1 2 (.int .i64 1)).setCell n1 3 (.slice (some ⟨W1.heap.size, 0, none⟩) 1 1)).setCell n1 4 (.int .i64 0)).setCell n1 5 (.slice (some ⟨W2.heap.size, 0, none⟩) 1 1)).setCell n1 6 (.int .i64 0)).setCell n1 7 (.slice none 0 0))
  have y3 := ((((((((HS3.out.setCell n2 0 (.int .i64 0)).setCell n2 1 (.slice (some ⟨W0.heap.size, 0, none⟩) 2 2)).setCell n2 2 (.int .i64 1)).setCell n2 3 (.slice (some ⟨W1.heap.size, 0, none⟩) 1 1)).setCell n2 4 (.int .i64 0)).setCell n2 5 (.slice (some ⟨W2.heap.size, 0, none⟩) 1 1)).setCell n2 6 (.int .i64 0)).setCell n2 7 (.slice none 0 0))
  have hw := ((((((((HW.out.setCell (p := ⟨b0, 0, none⟩) (Nat.le_of_eq HZ.out) (.int .i64 0)).setCell (p := ⟨b0, 1, none⟩) (Nat.le_of_eq HZ.out) (.slice (some ⟨W0.heap.size, 0, none⟩) 2 2)).setCell (p := ⟨b0, 2, none⟩) (Nat.le_of_eq HZ.out) (.int .i64 1)).setCell (p := ⟨b0, 3, none⟩) (Nat.le_of_eq HZ.out) (.slice (some ⟨W1.heap.size, 0, none⟩) 1 1)).setCell (p := ⟨b0, 4, none⟩) (Nat.le_of_eq HZ.out) (.int .i64 0)).setCell (p := ⟨b0, 5, none⟩) (Nat.le_of_eq HZ.out) (.slice (some ⟨W2.heap.size, 0, none⟩) 1 1)).setCell (p := ⟨b0, 6, none⟩) (Nat.le_of_eq HZ.out) (.int .i64 0)).setCell (p := ⟨b0, 7, none⟩) (Nat.le_of_eq HZ.out) (.slice none 0 0))
  unfold GivesB e00 e01 e10 e11
  simp only [if_pos h0, canon_one_tT, canon_tT, canon_one, canon_zero]
  exact ⟨_, _, _, _, _, _, _, _, _, _, _, _, rfl, y1, y2, y3, SL.nil_ _, fun _ ad e => by injection e with e; subst e; show w.heap.size ≤ W1.heap.size; have := HZ.out; omega, fun _ ad e => (by cases e), hw⟩

set_option maxRecDepth 100000 in
set_option maxHeartbeats 4000000 in
theorem block_neg (x : Int) (w : World) (h0 : ¬ 0 < x) : Calls Tryd.prog 78 #[.int .i64 x] w (GivesB w x) := by
  have hW0 : Below w.heap.size w (w.alloc (.cells #[.int .i64 0, .slice none 0 0, .int .i64 0, .slice none 0 0, .int .i64 0, .slice none 0 0, .int .i64 0, .slice none 0 0] 106)) := (Below.refl _ _).alloc (Nat.le_refl _) _
  have HW := hide hW0
  have HK := hide (Blk.new w 106 #[.int .i64 0, .slice none 0 0, .int .i64 0, .slice none 0 0, .int .i64 0, .slice none 0 0, .int .i64 0, .slice none 0 0])
  go_enter Tryd.func78, Tryd.ntmps78
  go_upto_region 3 with fail
  obtain ⟨W0, hw0⟩ : ∃ W, w.alloc (.cells #[.int .i64 0, .slice none 0 0, .int .i64 0, .slice none 0 0, .int .i64 0, .slice none 0 0, .int .i64 0, .slice none 0 0] 106) = W := ⟨_, rfl⟩
  have hz0 : w.heap.size < W0.heap.size := by rw [← hw0]; simp
  rw [hw0] at HW HK ⊢
  obtain ⟨b0, hb0⟩ : ∃ b, w.heap.size = b := ⟨_, rfl⟩
  rw [hb0] at hz0 HK ⊢
  have HZ := hide hb0
  clear hw0 hb0 hW0
  go_wp2_with fail
  have hl := SL.lit W0 [1] (by decide) (cs := #[.int .i64 1]) rfl (m := 1) rfl
  have hb := (Below.refl W0.heap.size W0).alloc (Nat.le_refl _) (.cells #[.int .i64 1] 3)
  obtain ⟨V1, hV⟩ : ∃ V, W0.alloc (.cells #[.int .i64 1] 3) = V := ⟨_, rfl⟩
  rw [hV] at hl hb ⊢
  refine (bpoly_any 0 _ _ _ V1).mono ?_
  rintro e W1 ⟨rfl, hc⟩
  have hbc := hb.trans (hc.mono hb.size)
  have HS1 := hide (hl.below hc)
  replace HW := hide (HW.out.trans (hbc.mono HW.out.size))
  replace HK := hide (HK.out.below hbc (by omega))
  have hz1 : b0 < W1.heap.size := by have := hbc.size; omega
  clear hl hb hc hbc hV
  go_wp2_with fail
  have hl := SL.lit W1 [1] (by decide) (cs := #[.int .i64 1]) rfl (m := 1) rfl
  have hb := (Below.refl W1.heap.size W1).alloc (Nat.le_refl _) (.cells #[.int .i64 1] 3)
  obtain ⟨V2, hV⟩ : ∃ V, W1.alloc (.cells #[.int .i64 1] 3) = V := ⟨_, rfl⟩
  rw [hV] at hl hb ⊢
  refine (bpoly_any (-1) _ _ _ V2).mono ?_
  rintro e W2 ⟨rfl, hc⟩
  have hbc := hb.trans (hc.mono hb.size)
  have HS2 := hide (hl.below hc)
  replace HS1 := hide (HS1.out.below hbc)
  replace HW := hide (HW.out.trans (hbc.mono HW.out.size))
  replace HK := hide (HK.out.below hbc (by omega))
  have hz2 : b0 < W2.heap.size := by have := hbc.size; omega
  clear hl hb hc hbc hV
  go_wp2_with fail
  have hl := SL.lit W2 [-1, 1] (by decide) (cs := #[.int .i64 (-1), .int .i64 1]) rfl (m := 2) rfl
  have hb := (Below.refl W2.heap.size W2).alloc (Nat.le_refl _) (.cells #[.int .i64 (-1), .int .i64 1] 3)
  obtain ⟨V3, hV⟩ : ∃ V, W2.alloc (.cells #[.int .i64 (-1), .int .i64 1] 3) = V := ⟨_, rfl⟩
  rw [hV] at hl hb ⊢
  refine (bpoly_any (-1) _ _ _ V3).mono ?_
  rintro e W3 ⟨rfl, hc⟩
  have hbc := hb.trans (hc.mono hb.size)
  have HS3 := hide (hl.below hc)
  replace HS1 := hide (HS1.out.below hbc)
  replace HS2 := hide (HS2.out.below hbc)
  replace HW := hide (HW.out.trans (hbc.mono HW.out.size))
  replace HK := hide (HK.out.below hbc (by omega))
  have hz3 : b0 < W3.heap.size := by have := hbc.size; omega
  clear hl hb hc hbc hV
  have f0 := HK.out.frozen 0
  have g0 := HK.out.cell 0
  have f1 := HK.out.frozen 1
  have g1 := HK.out.cell 1
  have f2 := HK.out.frozen 2
  have g2 := HK.out.cell 2
  have f3 := HK.out.frozen 3
  have g3 := HK.out.cell 3
  have f4 := HK.out.frozen 4
  have g4 := HK.out.cell 4
  have f5 := HK.out.frozen 5
  have g5 := HK.out.cell 5
  have f6 := HK.out.frozen 6
  have g6 := HK.out.cell 6
  have f7 := HK.out.frozen 7
  have g7 := HK.out.cell 7
  simp at g0 g1 g2 g3 g4 g5 g6 g7
  go_wp2_with fail
  refine bodyPost_ret (results_sq rfl _ rfl ((((((((HK.out.set_ 0 (.int .i64 0)).set_ 1 (.slice none 0 0)).set_ 2 (.int .i64 0)).set_ 3 (.slice (some ⟨W0.heap.size, 0, none⟩) 1 1)).set_ 4 (.int .i64 (-1))).set_ 5 (.slice (some ⟨W1.heap.size, 0, none⟩) 1 1)).set_ 6 (.int .i64 (-1))).set_ 7 (.slice (some ⟨W2.heap.size, 0, none⟩) 2 2))) rfl ?_
  have n0 : ∀ {m : Nat}, 0 < m → ∀ ad, some (⟨W0.heap.size, 0, none⟩ : Addr) = some ad → ad.block ≠ b0 := fun _ ad e => by injection e with e; subst e; show W0.heap.size ≠ b0; omega
  have n1 : ∀ {m : Nat}, 0 < m → ∀ ad, some (⟨W1.heap.size, 0, none⟩ : Addr) = some ad → ad.block ≠ b0 := fun _ ad e => by injection e with e; subst e; show W1.heap.size ≠ b0; omega
  have n2 : ∀ {m : Nat}, 0 < m → ∀ ad, some (⟨W2.heap.size, 0, none⟩ : Addr) = some ad → ad.block ≠ b0 := fun _ ad e => by injection e with e; subst e; show W2.heap.size ≠ b0; omega
  have y1 := ((((((((HS1.out.setCell n0 0 (.int .i64 0)).setCell n0 1 (.slice none 0 0)).setCell n0 2 (.int .i64 0)).setCell n0 3 (.slice (some ⟨W0.heap.size, 0, none⟩) 1 1)).setCell n0 4 (.int .i64 (-1))).setCell n0 5 (.slice (some ⟨W1.heap.size, 0, none⟩) 1 1)).setCell n0 6 (.int .i64 (-1))).setCell n0 7 (.slice (some ⟨W2.heap.size, 0, none⟩) 2 2))
  have y2 := ((((((((HS2.out.setCell n1 0 (.int .i64 0)).setCell n1 1 (.slice none 0 0)).setCell n1 2 (.int .i64 0)).setCell n1 3 (.slice (some ⟨W0.heap.size, 0, none⟩) 1 1)).setCell n1 4 (.int .i64 (-1))).setCell n1 5 (.slice (some ⟨W1.heap.size, 0, none⟩) 1 1)).setCell n1 6 (.int .i64 (-1))).setCell n1 7 (.slice (some ⟨W2.heap.size, 0, none⟩) 2 2))
  have y3 := ((((((((HS3.out.setCell n2 0 (.int .i64 0)).setCell n2 1 (.slice none 0 0)).setCell n2 2 (.int .i64 0)).setCell n2 3 (.slice (some ⟨W0.heap.size, 0, none⟩) 1 1)).setCell n2 4 (.int .i64 (-1))).setCell n2 5 (.slice (some ⟨W1.heap.size, 0, none⟩) 1 1)).setCell n2 6 (.int .i64 (-1))).setCell n2 7 (.slice (some ⟨W2.heap.size, 0, none⟩) 2 2))
  have hw := ((((((((HW.out.setCell (p := ⟨b0, 0, none⟩) (Nat.le_of_eq HZ.out) (.int .i64 0)).setCell (p := ⟨b0, 1, none⟩) (Nat.le_of_eq HZ.out) (.slice none 0 0)).setCell (p := ⟨b0, 2, none⟩) (Nat.le_of_eq HZ.out) (.int .i64 0)).setCell (p := ⟨b0, 3, none⟩) (Nat.le_of_eq HZ.out) (.slice (some ⟨W0.heap.size, 0, none⟩) 1 1)).setCell (p := ⟨b0, 4, none⟩) (Nat.le_of_eq HZ.out) (.int .i64 (-1))).setCell (p := ⟨b0, 5, none⟩) (Nat.le_of_eq HZ.out) (.slice (some ⟨W1.heap.size, 0, none⟩) 1 1)).setCell (p := ⟨b0, 6, none⟩) (Nat.le_of_eq HZ.out) (.int .i64 (-1))).setCell (p := ⟨b0, 7, none⟩) (Nat.le_of_eq HZ.out) (.slice (some ⟨W2.heap.size, 0, none⟩) 2 2))
  unfold GivesB e00 e01 e10 e11
  simp only [if_neg (show ¬ 0 < x by omega), canon_one_tI, canon_tI, canon_one, canon_zero]
  exact ⟨_, _, _, _, _, _, _, _, _, _, _, _, rfl, SL.nil_ _, y1, y2, y3, fun _ ad e => by injection e with e; subst e; show w.heap.size ≤ W0.heap.size; have := HZ.out; omega, fun _ ad e => by injection e with e; subst e; show w.heap.size ≤ W2.heap.size; have := HZ.out; omega, hw⟩

theorem block_any (x : Int) (w : World) : Calls Tryd.prog 78 #[.int .i64 x] w (GivesB w x) := by
  by_cases h0 : 0 < x
  · exact block_pos x w h0
  · exact block_neg x w h0
end Go.Proofs.YtndgffiihbdppaaDoor
/- Reading slices of anything within a set of blocks; slices that the call builds item by item. -/
namespace Go.Proofs.YtndgffiihbdppaaDoor
set_option linter.unusedVariables false
set_option linter.unusedSimpArgs false
open Go.RowKit

/-- The blocks of K are as they were. -/
def SameK (K : Nat → Prop) (w w' : World) : Prop := ∀ b, K b → w'.heap[b]? = w.heap[b]?
theorem SameK.cell {K : Nat → Prop} {w w' : World} (h : SameK K w w') {a : Addr} (ha : K a.block) : w'.cell? a = w.cell? a := World.cell?_of_block (w := w) (h a.block ha)
theorem SameK.below {B : Nat} {w w' : World} (h : Below B w w') : SameK (fun b => b < B) w w' := fun b hb => h.block b hb
theorem SameK.grown {w w' : World} {row : Option Nat} (h : w.grownBy w' row) : SameK (fun b => b < w.heap.size ∧ row ≠ some b) w w' := fun b hb => h.block b hb.1 (fun e => hb.2 e.symm)
theorem SameK.mono {K K' : Nat → Prop} {w w' : World} (h : SameK K w w') (hk : ∀ b, K' b → K b) : SameK K' w w' := fun b hb => h b (hk b hb)
/-- A reading of an item out of its cells: it looks at blocks of K alone. -/
abbrev RdI (α : Type) := (Nat → Prop) → World → List Value → α → Prop
structure RdOk {α : Type} (Q : RdI α) : Prop where
  keep : ∀ {K : Nat → Prop} {w w' : World} {us : List Value} {y : α}, SameK K w w' → w.heap.size ≤ w'.heap.size → Q K w us y → Q K w' us y
  mono : ∀ {K K' : Nat → Prop} {w : World} {us : List Value} {y : α}, (∀ b, b < w.heap.size → K b → K' b) → Q K w us y → Q K' w us y

/-- A slice that reads as ys; each item takes sz cells. -/
structure RdS {α : Type} (Q : RdI α) (sz : Nat) (K : Nat → Prop) (w : World) (A : Option Addr) (n c : Nat) (ys : List α) : Prop where
  len : ys.length = n
  small : n ≤ 17592186044416
  nil : A = none → n = 0 ∧ c = 0
  cap : n ≤ c
  mem : 0 < n → ∃ ad, A = some ad ∧ ad.block < w.heap.size ∧ K ad.block ∧ ∀ j (hj : j < ys.length), ∃ us : List Value, us.length = sz ∧ w.cell? (ad.add (j * sz)) = us[0]? ∧ (∀ i, i < sz → w.cell? ⟨(ad.add (j * sz)).block, (ad.add (j * sz)).off + i, none⟩ = us[i]?) ∧ Q K w us ys[j]
section
variable {α : Type} {Q : RdI α} {sz n c : Nat} {K K' : Nat → Prop} {w w' : World} {A : Option Addr} {ys : List α}
theorem RdS.keep (hQ : RdOk Q) (h : RdS Q sz K w A n c ys) (hk : SameK K w w') (hs : w.heap.size ≤ w'.heap.size) : RdS Q sz K w' A n c ys :=
  ⟨h.len, h.small, h.nil, h.cap, fun hn => by
    obtain ⟨ad, e, hl, hb, hc⟩ := h.mem hn
    refine ⟨ad, e, Nat.lt_of_lt_of_le hl hs, hb, fun j hj => ?_⟩
    obtain ⟨us, h1, h0, h2, h3⟩ := hc j hj
    exact ⟨us, h1, (hk.cell (by rw [block_of_add]; exact hb)).trans h0, fun i hi => (hk.cell (by show K (ad.add (j * sz)).block; rw [block_of_add]; exact hb)).trans (h2 i hi), hQ.keep hk hs h3⟩⟩
theorem RdS.mono (hQ : RdOk Q) (h : RdS Q sz K w A n c ys) (hk : ∀ b, b < w.heap.size → K b → K' b) : RdS Q sz K' w A n c ys :=
  ⟨h.len, h.small, h.nil, h.cap, fun hn => by
    obtain ⟨ad, e, hl, hb, hc⟩ := h.mem hn
    refine ⟨ad, e, hl, hk _ hl hb, fun j hj => ?_⟩
    obtain ⟨us, h1, h0, h2, h3⟩ := hc j hj
    exact ⟨us, h1, h0, h2, hQ.mono hk h3⟩⟩
theorem RdS.nil_ (Q : RdI α) (sz : Nat) (K : Nat → Prop) (w : World) : RdS Q sz K w none 0 0 [] := ⟨rfl, by omega, fun _ => ⟨rfl, rfl⟩, Nat.le_refl _, fun h => absurd h (by omega)⟩
end
/-- A slice of slices. -/
def QS {α : Type} (Q : RdI α) (sz : Nat) : RdI (List α) := fun K w us ys => ∃ B m d, us = [.slice B m d] ∧ RdS Q sz K w B m d ys
/-- A slice as it stands in the world: all that it reads is there. -/
abbrev Rd {α : Type} (Q : RdI α) (sz : Nat) (w : World) (A : Option Addr) (n c : Nat) (ys : List α) : Prop := RdS Q sz (fun b => b < w.heap.size) w A n c ys
theorem Rd.below {α : Type} {Q : RdI α} {sz n c : Nat} {w w' : World} {A : Option Addr} {ys : List α} (hQ : RdOk Q) (h : Rd Q sz w A n c ys) (hb : Below w.heap.size w w') : Rd Q sz w' A n c ys :=
  (h.keep hQ (SameK.below hb) hb.size).mono hQ fun b _ hl => Nat.lt_of_lt_of_le hl hb.size

structure SLK (K : Nat → Prop) (w : World) (A : Option Addr) (n c : Nat) (xs : List Int) : Prop where
  sl : SL w A n c xs
  inK : 0 < n → ∀ ad, A = some ad → K ad.block
theorem SLK.keep {K : Nat → Prop} {w w' : World} {A : Option Addr} {n c : Nat} {xs : List Int} (h : SLK K w A n c xs) (hk : SameK K w w') (hs : w.heap.size ≤ w'.heap.size) : SLK K w' A n c xs :=
  ⟨⟨⟨h.sl.il.len, h.sl.il.small, fun hn => by
    obtain ⟨ad, e, hl, hc⟩ := h.sl.il.mem hn
    refine ⟨ad, e, Nat.lt_of_lt_of_le hl hs, fun j hj => ?_⟩
    rw [← hc j hj]
    exact hk.cell (by rw [block_of_add]; exact h.inK hn ad e)⟩, h.sl.nil, h.sl.cap⟩, h.inK⟩
theorem SLK.mono {K K' : Nat → Prop} {w : World} {A : Option Addr} {n c : Nat} {xs : List Int} (h : SLK K w A n c xs) (hk : ∀ b, b < w.heap.size → K b → K' b) : SLK K' w A n c xs :=
  ⟨h.sl, fun hn ad e => hk _ (by
    obtain ⟨ad', e', hl, _⟩ := h.sl.il.mem hn
    rw [e] at e'; injection e' with e'; rw [e']; exact hl) (h.inK hn ad e)⟩
theorem SL.k {w : World} {A : Option Addr} {n c : Nat} {xs : List Int} (h : SL w A n c xs) : SLK (fun b => b < w.heap.size) w A n c xs := ⟨h, fun hn ad e => h.inside hn ad e⟩
section
variable {α : Type} {Q : RdI α} {n c k : Nat} {K : Nat → Prop} {w : World} {A : Option Addr} {ys : List α}
theorem RdS.inK (h : RdS Q n K w A c k ys) : 0 < c → ∀ ad, A = some ad → K ad.block ∧ ad.block < w.heap.size := fun hn ad e => by
  obtain ⟨ad', e', hl, hb, _⟩ := h.mem hn
  rw [e] at e'; injection e' with e'; subst e'; exact ⟨hb, hl⟩
end

/-! ### built by the call -/
/-- A slice of the call's own, with elements of type e and sz cells. -/
structure OwnG (e : TypeId) (sz : Nat) (w : World) (base : Nat) (A : Option Addr) (n c : Nat) (vs : List Value) : Prop where
  own : w.ownsRow base e sz (.slice A n c) n vs
  small : n ≤ 1000000
section
variable {e : TypeId} {sz base n c : Nat} {w w' : World} {A : Option Addr} {vs : List Value}
theorem OwnG.nil_ (e : TypeId) (sz : Nat) (w : World) (base : Nat) : OwnG e sz w base none 0 0 [] := ⟨World.ownsRow_nil _ _ _ _, by omega⟩
theorem OwnG.len (h : OwnG e sz w base A n c vs) : vs.length = n * sz := h.own.1
theorem OwnG.lt (h : OwnG e sz w base A n c vs) : ∀ k, (Value.slice A n c).ownBlock = some k → base ≤ k ∧ k < w.heap.size := h.own.lt
theorem OwnG.keep {K : Nat → Prop} (h : OwnG e sz w base A n c vs) (hk : SameK K w w') (hK : ∀ k, (Value.slice A n c).ownBlock = some k → K k) : OwnG e sz w' base A n c vs := by
  refine ⟨⟨h.own.1, ?_⟩, h.small⟩
  rcases h.own.2 with h2 | ⟨g, cap, cur, hv, hg, hh, r⟩
  · exact .inl h2
  · exact .inr ⟨g, cap, cur, hv, hg, (hk g (hK g (by rw [hv]; rfl))).trans hh, r⟩
theorem OwnG.below (h : OwnG e sz w base A n c vs) (hb : Below w.heap.size w w') : OwnG e sz w' base A n c vs := h.keep (SameK.below hb) fun k hk => (h.lt k hk).2
theorem OwnG.mono {b' : Nat} (h : OwnG e sz w base A n c vs) (hb : b' ≤ base) : OwnG e sz w b' A n c vs := by
  refine ⟨⟨h.own.1, ?_⟩, h.small⟩
  rcases h.own.2 with h2 | ⟨g, cap, cur, hv, hg, r⟩
  · exact .inl h2
  · exact .inr ⟨g, cap, cur, hv, by omega, r⟩
theorem OwnG.form (h : OwnG e sz w base A n c vs) (hn : 0 < n) : ∃ g, A = some ⟨g, 0, none⟩ ∧ base ≤ g ∧ g < w.heap.size := by
  rcases h.own.2 with ⟨_, h0⟩ | ⟨g, cap, cur, hv, hg, hh, _⟩
  · omega
  · simp only [Value.slice.injEq] at hv
    exact ⟨g, hv.1, hg, Blk.lt (w := w) (t := e) (cs := cur) hh⟩
theorem OwnG.cells (h : OwnG e sz w base A n c vs) : ∀ k, (Value.slice A n c).ownBlock = some k → ∃ cur : Array Value, base ≤ k ∧ w.heap[k]? = some (.cells cur e (0, 0)) := by
  intro k hk
  rcases h.own.2 with ⟨hv, _⟩ | ⟨g, cap, cur, hv, hb, hh, _⟩
  · rw [hv] at hk; cases hk
  · rw [hv] at hk
    injection hk with hk
    subst hk
    exact ⟨cur, hb, hh⟩
theorem OwnG.nilcap (h : OwnG e sz w base A n c vs) : (A = none → n = 0 ∧ c = 0) ∧ n ≤ c := by
  rcases h.own.2 with ⟨hv, h0⟩ | ⟨g, cap, cur, hv, _, _, hnc, _⟩
  · simp only [Value.slice.injEq] at hv
    exact ⟨fun _ => ⟨hv.2.1, hv.2.2⟩, by omega⟩
  · simp only [Value.slice.injEq, true_and] at hv
    exact ⟨fun e => (by rw [e] at hv; exact absurd hv.1 (by simp)), by omega⟩
theorem OwnG.cellAt {g : Nat} (h : OwnG e sz w base (some ⟨g, 0, none⟩) n c vs) {j : Nat} (hj : j < n * sz) : w.cell? ⟨g, j, none⟩ = vs[j]? := h.own.cellAt j hj
theorem OwnG.frozen {g : Nat} (h : OwnG e sz w base (some ⟨g, 0, none⟩) n c vs) (j : Nat) : w.frozen? ⟨g, j, none⟩ = false := h.own.frozenAt j
theorem OwnG.set_ {g : Nat} (h : OwnG e sz w base (some ⟨g, 0, none⟩) n c vs) (j : Nat) (u : Value) : OwnG e sz (w.setCell ⟨g, j, none⟩ u) base (some ⟨g, 0, none⟩) n c (vs.set j u) := ⟨(h.own.stored j u).1, h.small⟩
end
/-- What append leaves. -/
structure AppG (e : TypeId) (sz : Nat) (w : World) (base : Nat) (A : Option Addr) (n c : Nat) (vs : List Value) (A' : Option Addr) (c' : Nat) (w' : World) : Prop where
  own : OwnG e sz w' base A' n c' vs
  grown : w.grownBy w' (Value.slice A n c).ownBlock
  lies : (Value.slice A' n c').ownBlock = (Value.slice A n c).ownBlock ∨ (Value.slice A' n c').ownBlock = some w.heap.size
/-- A slice that the call builds: its own row of cells, and items that are read outside it. -/
structure Bld {α : Type} (L : Nat → Prop) (Q : RdI α) (e : TypeId) (sz : Nat) (w0 w : World) (A : Option Addr) (n c : Nat) (vs : List Value) (ys : List α) : Prop where
  own : OwnG e sz w w0.heap.size A n c vs
  len : ys.length = n
  row : ∀ j (hj : j < ys.length), Q (fun b => L b ∧ b < w.heap.size ∧ (Value.slice A n c).ownBlock ≠ some b) w ((vs.drop (j * sz)).take sz) ys[j]
  below : Below w0.heap.size w0 w
section
variable {α : Type} {L : Nat → Prop} {Q : RdI α} {e : TypeId} {sz n c : Nat} {w0 w w' : World} {A : Option Addr} {vs : List Value} {ys : List α}
theorem Bld.start (L : Nat → Prop) (Q : RdI α) (e : TypeId) (sz : Nat) (w0 : World) : Bld L Q e sz w0 w0 none 0 0 [] [] := ⟨OwnG.nil_ _ _ _ _, rfl, fun j hj => by simp at hj, Below.refl _ _⟩
theorem Bld.to (hQ : RdOk Q) (h : Bld L Q e sz w0 w A n c vs ys) (hb : Below w.heap.size w w') : Bld L Q e sz w0 w' A n c vs ys :=
  ⟨h.own.below hb, h.len, fun j hj => hQ.mono (fun b _ hb2 => ⟨hb2.1, Nat.lt_of_lt_of_le hb2.2.1 hb.size, hb2.2.2⟩) (hQ.keep ((SameK.below hb).mono fun b hb2 => hb2.2.1) hb.size (h.row j hj)), h.below.trans (hb.mono h.below.size)⟩
/-- One item more. -/
theorem Bld.add (hQ : RdOk Q) {A9 : Option Addr} {c9 : Nat} {w9 : World} {us : List Value} {y : α} (h : Bld L Q e sz w0 w A n c vs ys) (hl : us.length = sz)
    (hy : Q (fun b => L b ∧ b < w.heap.size ∧ (Value.slice A n c).ownBlock ≠ some b) w us y) (happ : AppG e sz w w0.heap.size A (n + 1) c (vs ++ us) A9 c9 w9) :
    Bld L Q e sz w0 w9 A9 (n + 1) c9 (vs ++ us) (ys ++ [y]) := by
  have hown : (Value.slice A (n + 1) c).ownBlock = (Value.slice A n c).ownBlock := ownBlock_len A (n + 1) n c c
  have hsame : SameK (fun b => L b ∧ b < w.heap.size ∧ (Value.slice A n c).ownBlock ≠ some b) w w9 := by
    have := SameK.grown happ.grown
    rw [hown] at this
    exact this.mono fun b hb => hb.2
  have hup : ∀ b, b < w9.heap.size → (L b ∧ b < w.heap.size ∧ (Value.slice A n c).ownBlock ≠ some b) → L b ∧ b < w9.heap.size ∧ (Value.slice A9 (n + 1) c9).ownBlock ≠ some b := fun b hb h2 => ⟨h2.1, hb, by
    rcases happ.lies with h3 | h3
    · rw [h3, hown]; exact h2.2.2
    · rw [h3]; intro e; injection e with e; omega⟩
  have hvl := h.own.len
  refine ⟨happ.own, by simp [h.len], fun j hj => ?_, h.below.grown happ.grown h.below.size (fun g hg => (h.own.lt g (by rw [← hown]; exact hg)).1)⟩
  have hj2 : j < n + 1 := by simp [h.len] at hj; exact hj
  by_cases hjn : j < n
  · have hj3 : j < ys.length := by rw [h.len]; exact hjn
    have hm : (j + 1) * sz ≤ n * sz := Nat.mul_le_mul_right _ hjn
    rw [Nat.add_mul, Nat.one_mul] at hm
    have e1 : ((vs ++ us).drop (j * sz)).take sz = (vs.drop (j * sz)).take sz := by
      rw [List.drop_append_of_le_length (by omega), List.take_append_of_le_length (by rw [List.length_drop]; omega)]
    have e2 : (ys ++ [y])[j] = ys[j] := List.getElem_append_left hj3
    rw [e1, e2]
    exact hQ.mono hup (hQ.keep hsame happ.grown.size (h.row j hj3))
  · have hjn2 : j = n := by omega
    subst hjn2
    have e1 : ((vs ++ us).drop (j * sz)).take sz = us := by
      rw [List.drop_append, show vs.drop (j * sz) = [] from List.drop_eq_nil_of_le (by omega), hvl, Nat.sub_self, List.drop_zero, List.nil_append, List.take_of_length_le (by omega)]
    have e2 : (ys ++ [y])[j] = y := by rw [List.getElem_append_right (by rw [h.len]; exact Nat.le_refl _)]; simp
    rw [e1, e2]
    exact hQ.mono hup (hQ.keep hsame happ.grown.size hy)
theorem Bld.rdK (hQ : RdOk Q) (hs0 : 0 < sz) (hL : ∀ b, w0.heap.size ≤ b → L b) (h : Bld L Q e sz w0 w A n c vs ys) : RdS Q sz (fun b => L b ∧ b < w.heap.size) w A n c ys := by
  have hvl := h.own.len
  refine ⟨h.len, by have := h.own.small; omega, h.own.nilcap.1, h.own.nilcap.2, fun hn => ?_⟩
  obtain ⟨g, rfl, hgb, hl⟩ := h.own.form hn
  refine ⟨_, rfl, hl, ⟨hL _ hgb, hl⟩, fun j hj => ⟨(vs.drop (j * sz)).take sz, ?_, ?_, ?_, hQ.mono (fun b hb h2 => ⟨h2.1, hb⟩) (h.row j hj)⟩⟩
  · have hj2 := h.len
    have hm : (j + 1) * sz ≤ n * sz := Nat.mul_le_mul_right _ (by omega)
    rw [Nat.add_mul, Nat.one_mul] at hm
    rw [List.length_take, List.length_drop]; omega
  · have hj2 := h.len
    have hm : (j + 1) * sz ≤ n * sz := Nat.mul_le_mul_right _ (by omega)
    rw [Nat.add_mul, Nat.one_mul] at hm
    rw [show (⟨g, 0, none⟩ : Addr).add (j * sz) = ⟨g, j * sz, none⟩ by unfold Addr.add; split <;> simp_all, h.own.cellAt (by omega)]
    rw [List.getElem?_take, if_pos hs0, List.getElem?_drop, Nat.add_zero]
  · intro i hi
    have hj2 := h.len
    have hm : (j + 1) * sz ≤ n * sz := Nat.mul_le_mul_right _ (by omega)
    rw [Nat.add_mul, Nat.one_mul] at hm
    rw [show (⟨g, 0, none⟩ : Addr).add (j * sz) = ⟨g, j * sz, none⟩ by unfold Addr.add; split <;> simp_all]
    show w.cell? ⟨g, j * sz + i, none⟩ = _
    rw [h.own.cellAt (by omega), List.getElem?_take, if_pos hi, List.getElem?_drop]
theorem Bld.rd (hQ : RdOk Q) (hs0 : 0 < sz) (hL : ∀ b, w0.heap.size ≤ b → L b) (h : Bld L Q e sz w0 w A n c vs ys) : Rd Q sz w A n c ys := (h.rdK hQ hs0 hL).mono hQ fun b hb _ => hb
/-- Outside a set of old blocks: everything that is read is new. -/
theorem Bld.far (h : Bld L Q e sz w0 w A n c vs ys) : 0 < n → ∀ ad, A = some ad → w0.heap.size ≤ ad.block := fun hn ad e => by
  obtain ⟨g, e2, hg, _⟩ := h.own.form hn
  rw [e] at e2; injection e2 with e2; rw [e2]; exact hg
end
end Go.Proofs.YtndgffiihbdppaaDoor
