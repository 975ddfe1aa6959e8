/- Several texts in one. -/
import Derived.Test.YtndgffiihbdppaaPart4
import Derived.Test.YtndgffiihbdppaaPart3
import Derived.Test.YtndgffiihbdppaaPart9
import Derived.Test.YtndgffiihbdppaaPart7
import Derived.Test.YtndgffiihbdppaaPart2
import Derived.Test.YtndgffiihbdppaaBase1
import Derived.Test.YtndgffiihbdppaaPart1
/- Package alexander: what fits (mathematics). -/
namespace Go.Proofs.Ytndgffiihbdppaa
set_option linter.unusedVariables false
set_option linter.unusedSimpArgs false
open CR

/-- The Burau matrices of two words, and all that is made of them, fit. -/
structure AlF (N : Nat) (u v : List Int) : Prop where
  ru : ∀ i, i < N → ∀ j, j < N → LP.Rt (bu N u i j)
  rv : ∀ i, i < N → ∀ j, j < N → LP.Rt (bu N v i j)
  rp : ∀ i, i < N → ∀ k, k < N → ∀ j, j < N → LP.Rt (bu N u i k * bu N v k j)
  rs : ∀ i, i < N → ∀ j, j < N → ∀ m, m ≤ N → LP.Rt (CR.sumN m fun k => bu N u i k * bu N v k j)
  sm : ∀ i, i < N → ∀ j, j < N → LP.N1 (bu N (u ++ v) i j) 20 99999999
theorem AlF.of_RN {N E1 E2 V1 V2 : Nat} {u v : List Int} (h1 : RN N (bu N u) E1 V1) (h2 : RN N (bu N v) E2 V2) (hE : E1 + E2 ≤ 20) (hV : V1 * V2 ≤ 99999999) (a1 : V1 ≤ 100000000) (a2 : V2 ≤ 100000000) : AlF N u v := by
  refine ⟨fun i hi j hj => (h1.entry hi hj).rt (by omega) a1, fun i hi j hj => (h2.entry hi hj).rt (by omega) a2, fun i hi k hk j hj => ((h1.entry hi hk).mul (h2.entry hk hj)).rt (by omega) (by omega), fun i hi j hj m hm => (h1.part h2 hi hj hm).rt (by omega) (by omega), fun i hi j hj => ?_⟩
  rw [bu_append N u v i hi j hj]
  exact (h1.part h2 hi hj (Nat.le_refl _)).mono hE hV
theorem AlF.short {N : Nat} {u v : List Int} (hl : u.length + v.length ≤ 16) : AlF N u v := by
  have p1 : 3 ^ u.length ≤ 43046721 := pow3 (by omega)
  have p2 : 3 ^ v.length ≤ 43046721 := pow3 (by omega)
  refine AlF.of_RN (bu_rn u) (bu_rn v) (by omega) ?_ (by omega) (by omega)
  rw [← Nat.pow_add]
  have := pow3 hl
  omega
theorem rn_ten {u : List Int} (hu : okB 2 u) (hl : u.length ≤ 10) : RN 2 (bu 2 u) 10 4968 := by
  have o1 : okB 2 (u.drop 1) := fun x hx => hu x (List.mem_of_mem_drop hx)
  have h1 : RN 2 (bu 2 (u.drop 1)) 9 1656 := ⟨fun _ _ => 828, fun i hi j hj => bu_small (Nat.le_refl 2) (by omega) o1 (by simp; omega) hi hj, fun i hi => by show 0 + 828 + 828 ≤ 1656; omega⟩
  have h2 : RN 2 (bu 2 (u.take 1)) 1 3 := (bu_rn (u.take 1)).mono (by simp; omega) (by
    have : 3 ^ (u.take 1).length ≤ 3 ^ 1 := Nat.pow_le_pow_right (by omega) (by simp; omega)
    simpa using this)
  have h3 := (h2.mul h1).congr (EqM.symm (bu_append 2 (u.take 1) (u.drop 1)))
  rw [List.take_append_drop] at h3
  exact h3
theorem AlF.two {u v : List Int} (hu : okB 2 u) (hv : okB 2 v) (lu : u.length ≤ 10) (lv : v.length ≤ 10) : AlF 2 u v :=
  AlF.of_RN (rn_ten hu lu) (rn_ten hv lv) (by omega) (by decide) (by decide) (by decide)
theorem okB_one {w : List Int} (h : okB 1 w) : w = [] := by
  cases w with
  | nil => rfl
  | cons x w => have := h x (by simp); omega
theorem AlF.all {N : Nat} {w : List Int} (hw : okB N w) (h1 : 1 ≤ N) (hl : w.length ≤ 20) (hf : w.length ≤ 16 ∨ N ≤ 2) : AlF N (w.take (w.length / 2)) (w.drop (w.length / 2)) := by
  by_cases h : w.length ≤ 16
  · exact AlF.short (by rw [List.length_take, List.length_drop]; omega)
  · have h2 : N = 2 := by
      by_cases e : N = 1
      · subst e
        rw [okB_one hw] at h
        simp at h
      · omega
    subst h2
    exact AlF.two (fun x hx => hw x (List.mem_of_mem_take hx)) (fun x hx => hw x (List.mem_of_mem_drop hx)) (by rw [List.length_take]; omega) (by rw [List.length_drop]; omega)
/-- The identity matrix less a Burau matrix. -/
noncomputable def imA (N : Nat) (w : List Int) : Mtx LP := fun i j => oneM i j + -(bu N w i j)
theorem adet_im (N : Nat) (w : List Int) : adet N w = detR (N - 1) (imA N w) := rfl
theorem imA_n1 {N : Nat} {w : List Int} {i j : Nat} (h : LP.N1 (bu N w i j) 20 99999999) : LP.N1 (imA N w i j) 20 100000000 := by
  have h1 : LP.N1 ((oneM : Mtx LP) i j) 20 1 := by
    unfold oneM
    split
    · exact LP.N1.one.mono (by omega) (by omega)
    · exact LP.N1.zero.mono (by omega) (by omega)
  exact (h1.add h.neg).mono (Nat.le_refl _) (by omega)
theorem detR_1 (M : Mtx LP) : detR 1 M = M 0 0 := by
  show CR.sumN 1 (fun j => CR.sgR LP j * (M 0 j * 1)) = _
  rw [CR.sumN_succ]
  show CR.sumN 0 _ + CR.sgR LP 0 * (M 0 0 * 1) = _
  rw [CR.mul_one]
  show 0 + 1 * M 0 0 = _
  rw [CR.zero_add, CR.one_mul]
theorem CE.of_n1 {x : LP} {E V : Nat} (h : LP.N1 x E V) : CE x E V := ⟨fun k hk => h.supp hk, h.co⟩
/-- The determinant fits. -/
theorem adet_ce {N : Nat} {w : List Int} (hw : okB N w) (h1 : 1 ≤ N) (h6 : N ≤ 6) (hl : w.length ≤ 20) (hf : w.length ≤ 16 ∨ N ≤ 2) : CE (adet N w) 20 100000000 := by
  by_cases h : w.length ≤ 16
  · obtain ⟨M, rfl⟩ : ∃ M, N = M + 1 := ⟨N - 1, by omega⟩
    exact (adet_16 (by omega) hw h).mono (by omega) (by omega)
  · have h2 : N = 2 := by
      by_cases e : N = 1
      · subst e
        rw [okB_one hw] at h
        simp at h
      · omega
    subst h2
    have h3 := (AlF.all hw h1 hl hf).sm 0 (by omega) 0 (by omega)
    rw [List.take_append_drop] at h3
    rw [adet_im, show 2 - 1 = 1 from rfl, detR_1]
    exact CE.of_n1 (imA_n1 h3)
/-- The matrix as lists of polynomials. -/
noncomputable def imL (N : Nat) (w : List Int) : List (List Po) := (List.range (N - 1)).map fun i => (List.range (N - 1)).map fun j => cP (imA N w i j)
theorem tabA_at {k : Nat} {X : Mtx LP} {i j : Nat} (hi : i < k) (hj : j < k) : (((List.range k).map fun i => (List.range k).map fun j => cP (X i j)).getD i []).getD j (0, []) = cP (X i j) := by simp [List.getD, hi, hj]
theorem imL_det (N : Nat) (w : List Int) : detR (N - 1) (pmM (imL N w) (colL (N - 1))) = adet N w := by
  rw [pmM_colL, adet_im]
  refine detR_congr fun i hi j hj => ?_
  unfold mP imL
  rw [tabA_at hi hj]
  exact of_cP _
/-- The first coefficients. -/
theorem CE.take_ {b : Int} {ys : List Int} {E V : Nat} (h : CE (LP.of b ys) E V) (i : Nat) : CE (LP.of b (ys.take i)) E V := by
  have e : ∀ k, LP.co (LP.of b (ys.take i)) k = 0 ∨ LP.co (LP.of b (ys.take i)) k = LP.co (LP.of b ys) k := fun k => by
    rw [LP.co_of, LP.co_of, List.length_take]
    by_cases h1 : b ≤ k ∧ k < b + (min i ys.length : Nat)
    · rw [if_pos h1, if_pos (by omega)]
      right
      simp only [List.getD, List.getElem?_take]
      rw [if_pos (by omega)]
    · rw [if_neg h1]
      exact .inl rfl
  refine ⟨fun k hk => h.ex k ?_, fun k => ?_⟩
  · rcases e k with e1 | e1
    · exact absurd e1 hk
    · rwa [← e1]
  · rcases e k with e1 | e1
    · rw [e1]; exact Nat.zero_le _
    · rw [e1]; exact h.cf k
theorem CE.at_ {b : Int} {ys : List Int} {E V : Nat} (h : CE (LP.of b ys) E V) {i : Nat} (hi : i < ys.length) : (ys.getD i 0).natAbs ≤ V ∧ (ys.getD i 0 ≠ 0 → (b + i).natAbs ≤ E) := by
  have e : LP.co (LP.of b ys) (b + i) = ys.getD i 0 := by
    rw [LP.co_of, if_pos (by omega), show (b + (i : Int) - b).toNat = i by omega]
  refine ⟨by rw [← e]; exact h.cf _, fun h0 => h.ex _ (by rw [e]; exact h0)⟩
theorem canon_tm {e c : Int} (h : c ≠ 0) : LP.canon (LP.term e c) = (e, [c]) := LP.canon_eq (.inr ⟨by simp, by simpa using h, by simpa using h⟩) (LP.of_one e c)
/-- One coefficient more. -/
theorem canon_more {b : Int} {ys : List Int} (h : CE (LP.of b ys) 20 100000000) {i : Nat} (hi : i < ys.length) (h0 : ys.getD i 0 ≠ 0) :
    LP.addR (LP.canon (LP.of b (ys.take i))).1 (LP.canon (LP.of b (ys.take i))).2 (b + i) [ys.getD i 0] = (0, (LP.canon (LP.of b (ys.take (i + 1)))).1, (LP.canon (LP.of b (ys.take (i + 1)))).2) := by
  have r1 : LP.Rt (LP.of b (ys.take i)) := (h.take_ i).rt (by omega) (Nat.le_refl _)
  have r3 : LP.Rt (LP.of b (ys.take (i + 1))) := (h.take_ (i + 1)).rt (by omega) (Nat.le_refl _)
  obtain ⟨c1, c2⟩ := h.at_ hi
  have c3 := c2 h0
  have r2 : LP.Rt (LP.term (b + i) (ys.getD i 0)) := ((LP.N1.term (b + i) (ys.getD i 0)).mono c3 c1).rt (by omega) (Nat.le_refl _)
  have e := LP.addR_canon r1 r2 (by rw [← LP.of_take hi]; exact r3)
  rw [← LP.of_take hi, canon_tm h0] at e
  exact e
theorem canon_same {b : Int} {ys : List Int} {i : Nat} (hi : i < ys.length) (h0 : ys.getD i 0 = 0) : LP.of b (ys.take (i + 1)) = LP.of b (ys.take i) := by
  rw [LP.of_take hi, h0]
  refine LP.ext fun k => ?_
  rw [LP.co_add, LP.co_term]
  split <;> omega
theorem alP_eq {N : Nat} {w : List Int} (h : alE (N : Int) w = 0) : alP (N : Int) w = LP.normC (LP.canon (adet N w)).2 := by unfold alP; rw [if_pos h, Int.toNat_natCast]
end Go.Proofs.Ytndgffiihbdppaa
/- Package braid: poly, block, sumOfProducts. -/
namespace Go.Proofs.Ytndgffiihbdppaa
set_option linter.unusedVariables false
set_option linter.unusedSimpArgs false
open Go.RowKit

set_option maxRecDepth 100000 in
set_option maxHeartbeats 2000000 in
theorem bpoly_any (lo : Int) (A : Option Addr) (n c : Nat) (w : World) : Calls Try.prog 114 #[.int .i64 lo, .slice A n c] w fun e w' => e = .returned (PV lo A n c) ∧ Below w.heap.size w w' := by
  have hb0 : Below w.heap.size w (w.alloc (.cells #[.int .i64 lo, .slice A n c] 36)) := (Below.refl _ _).alloc (Nat.le_refl _) _
  have HB0 := hide hb0
  have HK := hide (Blk.new w 36 #[.int .i64 lo, .slice A n c])
  clear hb0
  go_enter Try.func114, Try.ntmps114
  go_wp2_with fail
  refine bodyPost_ret (results_poly rfl _ rfl HK.out) rfl ?_
  exact ⟨rfl, HB0.out⟩

set_option maxRecDepth 100000 in
set_option maxHeartbeats 4000000 in
theorem sumP_any (F : PolyC) (x y z u : LP) (A : Option Addr) (n c : Nat) (B : Option Addr) (m d : Nat) (C : Option Addr) (l e : Nat) (D : Option Addr) (k f : Nat) (w : World) (ha : SL w A n c (LP.canon x).2) (hb : SL w B m d (LP.canon y).2) (hc : SL w C l e (LP.canon z).2) (hd : SL w D k f (LP.canon u).2)
    (rx : LP.Rt x) (ry : LP.Rt y) (rz : LP.Rt z) (ru : LP.Rt u) (rxy : LP.Rt (x * y)) (rzu : LP.Rt (z * u)) (rs : LP.Rt (x * y + z * u)) :
    Calls Try.prog 116 #[PV (LP.canon x).1 A n c, PV (LP.canon y).1 B m d, PV (LP.canon z).1 C l e, PV (LP.canon u).1 D k f] w (GivesP w (LP.canon (x * y + z * u)).1 (LP.canon (x * y + z * u)).2) := by
  have HM1 := hide (fun (w' : World) (h1 : SL w' A n c (LP.canon x).2) (h2 : SL w' B m d (LP.canon y).2) => F.mul (LP.canon x).1 A n c _ (LP.canon y).1 B m d _ w' h1 h2 rx.wf ry.wf)
  have HM2 := hide (fun (w' : World) (h1 : SL w' C l e (LP.canon z).2) (h2 : SL w' D k f (LP.canon u).2) => F.mul (LP.canon z).1 C l e _ (LP.canon u).1 D k f _ w' h1 h2 rz.wf ru.wf)
  have HA3 := hide (fun (w' : World) (P Q : Option Addr) (pn pc qn qc : Nat) (h1 : SL w' P pn pc (LP.canon (x * y)).2) (h2 : SL w' Q qn qc (LP.canon (z * u)).2) => F.add (LP.canon (x * y)).1 P pn pc _ (LP.canon (z * u)).1 Q qn qc _ w' h1 h2 rxy.wf rzu.wf)
  rw [LP.mulR_canon rx ry rxy] at HM1
  rw [LP.mulR_canon rz ru rzu] at HM2
  rw [LP.addR_canon rxy rzu rs] at HA3
  clear F rx ry rz ru rxy rzu rs
  generalize (LP.canon (x * y + z * u)).1 = ls at *
  generalize (LP.canon (x * y + z * u)).2 = cs at *
  generalize (LP.canon (x * y)).1 = lp at *
  generalize (LP.canon (x * y)).2 = cp at *
  generalize (LP.canon (z * u)).1 = lq at *
  generalize (LP.canon (z * u)).2 = cq at *
  generalize (LP.canon x).1 = lx at *
  generalize (LP.canon x).2 = cx at *
  generalize (LP.canon y).1 = ly at *
  generalize (LP.canon y).2 = cy at *
  generalize (LP.canon z).1 = lz at *
  generalize (LP.canon z).2 = cz at *
  generalize (LP.canon u).1 = lu at *
  generalize (LP.canon u).2 = cu at *
  obtain ⟨W0, hW0⟩ : ∃ W, ((((w.alloc (.cells #[.int .i64 lx, .slice A n c] 36)).alloc (.cells #[.int .i64 ly, .slice B m d] 36)).alloc (.cells #[.int .i64 lz, .slice C l e] 36)).alloc (.cells #[.int .i64 lu, .slice D k f] 36)).alloc (.cells #[.int .i64 0, .slice none 0 0] 36) = W := ⟨_, rfl⟩
  have hs0 : W0.heap.size = w.heap.size + 5 := by rw [← hW0]; simp
  have hb0 : Below w.heap.size w W0 := by
    rw [← hW0]
    exact (((((Below.refl _ _).alloc (Nat.le_refl _) _).alloc (by simp) _).alloc (by simp; omega) _).alloc (by simp; omega) _).alloc (by simp; omega) _
  have B1 : Blk W0 w.heap.size 36 #[.int .i64 lx, .slice A n c] := by rw [← hW0]; exact (((Blk.new w _ _).alloc _).alloc _).alloc _ |>.alloc _
  have B2 : Blk W0 (w.heap.size + 1) 36 #[.int .i64 ly, .slice B m d] := by
    rw [← hW0]
    have h := ((Blk.new (w.alloc (.cells #[.int .i64 lx, .slice A n c] 36)) 36 #[.int .i64 ly, .slice B m d]).alloc (.cells #[.int .i64 lz, .slice C l e] 36)).alloc (.cells #[.int .i64 lu, .slice D k f] 36) |>.alloc (.cells #[.int .i64 0, .slice none 0 0] 36)
    simpa using h
  have B3 : Blk W0 (w.heap.size + 1 + 1) 36 #[.int .i64 lz, .slice C l e] := by
    rw [← hW0]
    have h := (Blk.new ((w.alloc (.cells #[.int .i64 lx, .slice A n c] 36)).alloc (.cells #[.int .i64 ly, .slice B m d] 36)) 36 #[.int .i64 lz, .slice C l e]).alloc (.cells #[.int .i64 lu, .slice D k f] 36) |>.alloc (.cells #[.int .i64 0, .slice none 0 0] 36)
    simpa using h
  have B4 : Blk W0 (w.heap.size + 1 + 1 + 1) 36 #[.int .i64 lu, .slice D k f] := by
    rw [← hW0]
    have h := (Blk.new (((w.alloc (.cells #[.int .i64 lx, .slice A n c] 36)).alloc (.cells #[.int .i64 ly, .slice B m d] 36)).alloc (.cells #[.int .i64 lz, .slice C l e] 36)) 36 #[.int .i64 lu, .slice D k f]).alloc (.cells #[.int .i64 0, .slice none 0 0] 36)
    simpa using h
  have B5 : Blk W0 (w.heap.size + 1 + 1 + 1 + 1) 36 #[.int .i64 0, .slice none 0 0] := by
    rw [← hW0]
    have h := Blk.new ((((w.alloc (.cells #[.int .i64 lx, .slice A n c] 36)).alloc (.cells #[.int .i64 ly, .slice B m d] 36)).alloc (.cells #[.int .i64 lz, .slice C l e] 36)).alloc (.cells #[.int .i64 lu, .slice D k f] 36)) 36 #[.int .i64 0, .slice none 0 0]
    simpa using h
  have HS1 := hide (ha.below hb0)
  have HS2 := hide (hb.below hb0)
  have HS3 := hide (hc.below hb0)
  have HS4 := hide (hd.below hb0)
  have HW := hide hb0
  have K1 := hide B1
  have K2 := hide B2
  have K3 := hide B3
  have K4 := hide B4
  have K5 := hide B5
  clear ha hb hc hd hb0 B1 B2 B3 B4 B5
  go_enter Try.func116, Try.ntmps116
  go_upto_region 1 with fail
  clear hW0
  obtain ⟨b1, hb1⟩ : ∃ b, w.heap.size = b := ⟨_, rfl⟩
  rw [hb1] at K1 K2 K3 K4 K5 hs0 ⊢
  have HZ := hide hb1
  clear hb1
  obtain ⟨b2, hb2⟩ : ∃ b, b1 + 1 = b := ⟨_, rfl⟩
  rw [hb2] at K2 K3 K4 K5 ⊢
  obtain ⟨b3, hb3⟩ : ∃ b, b2 + 1 = b := ⟨_, rfl⟩
  rw [hb3] at K3 K4 K5 ⊢
  obtain ⟨b4, hb4⟩ : ∃ b, b3 + 1 = b := ⟨_, rfl⟩
  rw [hb4] at K4 K5 ⊢
  obtain ⟨b5, hb5⟩ : ∃ b, b4 + 1 = b := ⟨_, rfl⟩
  rw [hb5] at K5 ⊢
  have q1 : b1 < W0.heap.size := by omega
  have q2 : b2 < W0.heap.size := by omega
  have q3 : b3 < W0.heap.size := by omega
  have q4 : b4 < W0.heap.size := by omega
  have q5 : b5 < W0.heap.size := by omega
  have p1 : b1 < b5 := by omega
  have p2 : b1 ≤ b5 := by omega
  clear hb2 hb3 hb4 hb5 hs0
  have c10 := K1.out.cell 0
  have c11 := K1.out.cell 1
  have c20 := K2.out.cell 0
  have c21 := K2.out.cell 1
  simp at c10 c11 c20 c21
  go_wp2_with fail
  refine (HM1.out W0 HS1.out HS2.out).mono ?_
  rintro e1 w1 ⟨P, pn, pc, rfl, hs, hnw, hb⟩
  have HP := hide (hs.below ((Below.refl w1.heap.size w1).alloc (Nat.le_refl _) (.cells #[.int .i64 lp, .slice P pn pc] 36)))
  have hb1 := hb.trans (((Below.refl w1.heap.size w1).alloc (Nat.le_refl _) (.cells #[.int .i64 lp, .slice P pn pc] 36)).mono hb.size)
  have K6 := hide (Blk.new w1 36 #[.int .i64 lp, .slice P pn pc])
  replace K3 := hide (K3.out.below hb1 q3)
  replace K4 := hide (K4.out.below hb1 q4)
  replace K5 := hide (K5.out.below hb1 q5)
  replace HS3 := hide (HS3.out.below hb1)
  replace HS4 := hide (HS4.out.below hb1)
  replace HW := hide (HW.out.trans (hb1.mono HW.out.size))
  have r5 : b5 < w1.heap.size := by have := hb.size; omega
  have r1 : b1 ≤ w1.heap.size := by omega
  clear K1 K2 HS1 HS2 hb1 hb hs hnw c10 c11 c20 c21 HM1 q1 q2 q3 q4 q5
  go_upto_region 2 with fail
  obtain ⟨b6, hb6⟩ : ∃ b, w1.heap.size = b := ⟨_, rfl⟩
  obtain ⟨W1, hW1⟩ : ∃ W, w1.alloc (.cells #[.int .i64 lp, .slice P pn pc] 36) = W := ⟨_, rfl⟩
  have q6 : b6 < W1.heap.size := by rw [← hW1, ← hb6]; simp
  rw [hb6] at K6 r5 r1 ⊢
  rw [hW1] at K6 K3 K4 K5 HS3 HS4 HW HP ⊢
  clear hb6 hW1
  have c10 := K3.out.cell 0
  have c11 := K3.out.cell 1
  have c20 := K4.out.cell 0
  have c21 := K4.out.cell 1
  simp at c10 c11 c20 c21
  go_wp2_with fail
  refine (HM2.out W1 HS3.out HS4.out).mono ?_
  rintro e1 w2 ⟨Q, qn, qc, rfl, hs, hnw, hb⟩
  have HQ := hide (hs.below ((Below.refl w2.heap.size w2).alloc (Nat.le_refl _) (.cells #[.int .i64 lq, .slice Q qn qc] 36)))
  have hb1 := hb.trans (((Below.refl w2.heap.size w2).alloc (Nat.le_refl _) (.cells #[.int .i64 lq, .slice Q qn qc] 36)).mono hb.size)
  have K7 := hide (Blk.new w2 36 #[.int .i64 lq, .slice Q qn qc])
  replace K6 := hide (K6.out.below hb1 q6)
  replace K5 := hide (K5.out.below hb1 (by omega))
  replace HP := hide (HP.out.below hb1)
  replace HW := hide (HW.out.trans (hb1.mono HW.out.size))
  have r6 : b6 < w2.heap.size := by have := hb.size; omega
  clear K3 K4 HS3 HS4 hb1 hb hs hnw c10 c11 c20 c21 HM2 q6
  go_upto_region 3 with fail
  obtain ⟨b7, hb7⟩ : ∃ b, w2.heap.size = b := ⟨_, rfl⟩
  obtain ⟨W2, hW2⟩ : ∃ W, w2.alloc (.cells #[.int .i64 lq, .slice Q qn qc] 36) = W := ⟨_, rfl⟩
  have q7 : b7 < W2.heap.size := by rw [← hW2, ← hb7]; simp
  rw [hb7] at K7 r6 ⊢
  rw [hW2] at K7 K6 K5 HP HQ HW ⊢
  clear hb7 hW2
  have c10 := K6.out.cell 0
  have c11 := K6.out.cell 1
  have c20 := K7.out.cell 0
  have c21 := K7.out.cell 1
  simp at c10 c11 c20 c21
  go_wp2_with fail
  refine (HA3.out W2 _ _ _ _ _ _ HP.out HQ.out).mono ?_
  rintro e1 w3 ⟨R, rn, rc, rfl, hs, hnw, hb⟩
  have HR := hide (hs.below ((Below.refl w3.heap.size w3).alloc (Nat.le_refl _) (.cells #[.int .i64 ls, .slice R rn rc] 36)))
  have hb1 := hb.trans (((Below.refl w3.heap.size w3).alloc (Nat.le_refl _) (.cells #[.int .i64 ls, .slice R rn rc] 36)).mono hb.size)
  have K8 := hide (Blk.new w3 36 #[.int .i64 ls, .slice R rn rc])
  replace K5 := hide (K5.out.below hb1 (by omega))
  replace HW := hide (HW.out.trans (hb1.mono HW.out.size))
  have HN : Hid (0 < rn → ∀ ad, R = some ad → b7 < ad.block) := hide (fun h ad e => by have := hnw h ad e; omega)
  have r7 : b7 < w3.heap.size := by have := hb.size; omega
  clear K6 K7 HP HQ hb1 hb hs hnw c10 c11 c20 c21 HA3 q7
  go_upto_region 4 with fail
  obtain ⟨b8, hb8⟩ : ∃ b, w3.heap.size = b := ⟨_, rfl⟩
  obtain ⟨W3, hW3⟩ : ∃ W, w3.alloc (.cells #[.int .i64 ls, .slice R rn rc] 36) = W := ⟨_, rfl⟩
  rw [hb8] at K8 r7 ⊢
  rw [hW3] at K8 K5 HR HW ⊢
  clear hb8 hW3
  have c10 := K8.out.cell 0
  have c11 := K8.out.cell 1
  have c20 := K5.out.cell 0
  have c21 := K5.out.cell 1
  have f20 := K5.out.frozen 0
  have f21 := K5.out.frozen 1
  simp at c10 c11 c20 c21
  go_wp2_with fail
  refine bodyPost_ret (results_poly rfl _ rfl ((K5.out.set_ 0 (.int .i64 ls)).set_ 1 (.slice R rn rc))) rfl ?_
  refine ⟨R, rn, rc, rfl, ?_, fun h ad e => by have := HN.out h ad e; have := HZ.out; omega, ?_⟩
  · exact (HR.out.setCell (fun h ad e => by have := HN.out h ad e; omega) 0 _).setCell (fun h ad e => by have := HN.out h ad e; omega) 1 _
  · exact (HW.out.setCell (p := ⟨b5, 0, none⟩) (by show w.heap.size ≤ b5; rw [HZ.out]; exact p2) _).setCell (p := ⟨b5, 1, none⟩) (by show w.heap.size ≤ b5; rw [HZ.out]; exact p2) _
end Go.Proofs.Ytndgffiihbdppaa
/- A row stored into a block: what lies elsewhere stays. -/
namespace Go.Proofs.Ytndgffiihbdppaa
set_option linter.unusedVariables false
set_option linter.unusedSimpArgs false
open Go.RowKit

theorem SL.setRow_ {w : World} {A : Option Addr} {n c : Nat} {xs : List Int} (h : SL w A n c xs) {b : Nat} (hb : 0 < n → ∀ ad, A = some ad → ad.block ≠ b) (cs : Array Value) : SL (w.setRow b cs) A n c xs :=
  ⟨⟨h.il.len, h.il.small, fun hn => by
    obtain ⟨ad, e, hl, hc⟩ := h.il.mem hn
    refine ⟨ad, e, by simpa using hl, fun j hj => ?_⟩
    rw [← hc j hj]
    exact cell_setRow_other w b cs (ad.add j) (by rw [block_of_add]; exact hb hn ad e)⟩, h.nil, h.cap⟩
theorem Below.setRow_ {B g : Nat} {w0 w : World} (hb : Below B w0 w) (hBg : B ≤ g) (cs : Array Value) : Below B w0 (w.setRow g cs) :=
  ⟨hb.os, hb.tape, hb.output, by simpa using hb.size, fun k hk => (setRow_other _ _ _ _ (by omega)).trans (hb.block k hk)⟩
end Go.Proofs.Ytndgffiihbdppaa
/- Package braid: block. -/
namespace Go.Proofs.Ytndgffiihbdppaa
set_option linter.unusedVariables false
set_option linter.unusedSimpArgs false
open Go.RowKit

def e00 (x : Int) : LP := if 0 < x then 1 + -tT else 0
def e01 (x : Int) : LP := if 0 < x then tT else 1
def e10 (x : Int) : LP := if 0 < x then 1 else tI
def e11 (x : Int) : LP := if 0 < x then 0 else 1 + -tI
theorem canon_zero : LP.canon 0 = (0, []) := LP.canon_eq (.inl ⟨rfl, rfl⟩) rfl
theorem canon_one : LP.canon 1 = (0, [1]) := LP.canon_eq (.inr ⟨by simp, by decide, by decide⟩) (by unfold LP.of; rfl)
theorem canon_tT : LP.canon tT = (1, [1]) := LP.canon_eq (.inr ⟨by simp, by decide, by decide⟩) (by unfold LP.of; rfl)
theorem canon_tI : LP.canon tI = (-1, [1]) := LP.canon_eq (.inr ⟨by simp, by decide, by decide⟩) (by unfold LP.of; rfl)
theorem canon_one_tT : LP.canon (1 + -tT) = (0, [1, -1]) := LP.canon_eq (.inr ⟨by simp, by decide, by decide⟩) (by unfold LP.of; rfl)
theorem canon_one_tI : LP.canon (1 + -tI) = (-1, [-1, 1]) := LP.canon_eq (.inr ⟨by simp, by decide, by decide⟩) (by unfold LP.of; rw [CR.add_comm]; rfl)
/-- The four polynomials of a letter. -/
def GivesB (w : World) (x : Int) (e : Ending) (w' : World) : Prop :=
  ∃ A n c B m d C l f D k g, e = .returned (.agg #[.int .i64 (LP.canon (e00 x)).1, .slice A n c, .int .i64 (LP.canon (e01 x)).1, .slice B m d, .int .i64 (LP.canon (e10 x)).1, .slice C l f, .int .i64 (LP.canon (e11 x)).1, .slice D k g]) ∧
    SL w' A n c (LP.canon (e00 x)).2 ∧ SL w' B m d (LP.canon (e01 x)).2 ∧ SL w' C l f (LP.canon (e10 x)).2 ∧ SL w' D k g (LP.canon (e11 x)).2 ∧ NewA w B m ∧ NewA w D k ∧ Below w.heap.size w w'
theorem eBpoly : ∀ args w, (callFunc 114 args).run Try.prog w = .ok (.enter 114 args) w := enters (fn := Try.f114) (by kernel_rfl) (by kernel_rfl) (by kernel_rfl)

set_option maxRecDepth 100000 in
theorem results_sq {fn : Func} {t : Tmp} {b : Nat} {v0 v1 v2 v3 v4 v5 v6 v7 : Value} {w : World} (h : fn.results = #[.cell t 120]) (tmps : Array Value) (ht : tmps.getD t undef = .pointer (some ⟨b, 0, none⟩)) (hb : Blk w b 120 #[v0, v1, v2, v3, v4, v5, v6, v7]) :
    (results fn tmps).run Try.prog w = .ok (.agg #[v0, v1, v2, v3, v4, v5, v6, v7]) w := by
  have h0 := hb.cell 0
  have h1 := hb.cell 1
  have h2 := hb.cell 2
  have h3 := hb.cell 3
  have h4 := hb.cell 4
  have h5 := hb.cell 5
  have h6 := hb.cell 6
  have h7 := hb.cell 7
  simp at h0 h1 h2 h3 h4 h5 h6 h7
  have ht2 : tmps[t]?.getD undef = .pointer (some ⟨b, 0, none⟩) := by simpa using ht
  simp [results, h, ht2, go_sem, h0, h1, h2, h3, h4, h5, h6, h7, Result.andThen]

set_option maxRecDepth 100000 in
set_option maxHeartbeats 4000000 in
theorem block_pos (x : Int) (w : World) (h0 : 0 < x) : Calls Try.prog 115 #[.int .i64 x] w (GivesB w x) := by
  have hW0 : Below w.heap.size w (w.alloc (.cells #[.int .i64 0, .slice none 0 0, .int .i64 0, .slice none 0 0, .int .i64 0, .slice none 0 0, .int .i64 0, .slice none 0 0] 120)) := (Below.refl _ _).alloc (Nat.le_refl _) _
  have HW := hide hW0
  have HK := hide (Blk.new w 120 #[.int .i64 0, .slice none 0 0, .int .i64 0, .slice none 0 0, .int .i64 0, .slice none 0 0, .int .i64 0, .slice none 0 0])
  go_enter Try.func115, Try.ntmps115
  go_upto_region 2 with fail
  obtain ⟨W0, hw0⟩ : ∃ W, w.alloc (.cells #[.int .i64 0, .slice none 0 0, .int .i64 0, .slice none 0 0, .int .i64 0, .slice none 0 0, .int .i64 0, .slice none 0 0] 120) = W := ⟨_, rfl⟩
  have hz0 : w.heap.size < W0.heap.size := by rw [← hw0]; simp
  rw [hw0] at HW HK ⊢
  obtain ⟨b0, hb0⟩ : ∃ b, w.heap.size = b := ⟨_, rfl⟩
  rw [hb0] at hz0 HK ⊢
  have HZ := hide hb0
  clear hw0 hb0 hW0
  go_wp2_with fail
  have hl := SL.lit W0 [1, -1] (by decide) (cs := #[.int .i64 1, .int .i64 (-1)]) rfl (m := 2) rfl
  have hb := (Below.refl W0.heap.size W0).alloc (Nat.le_refl _) (.cells #[.int .i64 1, .int .i64 (-1)] 3)
  obtain ⟨V1, hV⟩ : ∃ V, W0.alloc (.cells #[.int .i64 1, .int .i64 (-1)] 3) = V := ⟨_, rfl⟩
  rw [hV] at hl hb ⊢
  refine (bpoly_any 0 _ _ _ V1).mono ?_
  rintro e W1 ⟨rfl, hc⟩
  have hbc := hb.trans (hc.mono hb.size)
  have HS1 := hide (hl.below hc)
  replace HW := hide (HW.out.trans (hbc.mono HW.out.size))
  replace HK := hide (HK.out.below hbc (by omega))
  have hz1 : b0 < W1.heap.size := by have := hbc.size; omega
  clear hl hb hc hbc hV
  go_wp2_with fail
  have hl := SL.lit W1 [1] (by decide) (cs := #[.int .i64 1]) rfl (m := 1) rfl
  have hb := (Below.refl W1.heap.size W1).alloc (Nat.le_refl _) (.cells #[.int .i64 1] 3)
  obtain ⟨V2, hV⟩ : ∃ V, W1.alloc (.cells #[.int .i64 1] 3) = V := ⟨_, rfl⟩
  rw [hV] at hl hb ⊢
  refine (bpoly_any 1 _ _ _ V2).mono ?_
  rintro e W2 ⟨rfl, hc⟩
  have hbc := hb.trans (hc.mono hb.size)
  have HS2 := hide (hl.below hc)
  replace HS1 := hide (HS1.out.below hbc)
  replace HW := hide (HW.out.trans (hbc.mono HW.out.size))
  replace HK := hide (HK.out.below hbc (by omega))
  have hz2 : b0 < W2.heap.size := by have := hbc.size; omega
  clear hl hb hc hbc hV
  go_wp2_with fail
  have hl := SL.lit W2 [1] (by decide) (cs := #[.int .i64 1]) rfl (m := 1) rfl
  have hb := (Below.refl W2.heap.size W2).alloc (Nat.le_refl _) (.cells #[.int .i64 1] 3)
  obtain ⟨V3, hV⟩ : ∃ V, W2.alloc (.cells #[.int .i64 1] 3) = V := ⟨_, rfl⟩
  rw [hV] at hl hb ⊢
  refine (bpoly_any 0 _ _ _ V3).mono ?_
  rintro e W3 ⟨rfl, hc⟩
  have hbc := hb.trans (hc.mono hb.size)
  have HS3 := hide (hl.below hc)
  replace HS1 := hide (HS1.out.below hbc)
  replace HS2 := hide (HS2.out.below hbc)
  replace HW := hide (HW.out.trans (hbc.mono HW.out.size))
  replace HK := hide (HK.out.below hbc (by omega))
  have hz3 : b0 < W3.heap.size := by have := hbc.size; omega
  clear hl hb hc hbc hV
  have f0 := HK.out.frozen 0
  have g0 := HK.out.cell 0
  have f1 := HK.out.frozen 1
  have g1 := HK.out.cell 1
  have f2 := HK.out.frozen 2
  have g2 := HK.out.cell 2
  have f3 := HK.out.frozen 3
  have g3 := HK.out.cell 3
  have f4 := HK.out.frozen 4
  have g4 := HK.out.cell 4
  have f5 := HK.out.frozen 5
  have g5 := HK.out.cell 5
  have f6 := HK.out.frozen 6
  have g6 := HK.out.cell 6
  have f7 := HK.out.frozen 7
  have g7 := HK.out.cell 7
  simp at g0 g1 g2 g3 g4 g5 g6 g7
  go_wp2_with fail
  refine bodyPost_ret (results_sq rfl _ rfl ((((((((HK.out.set_ 0 (.int .i64 0)).set_ 1 (.slice (some ⟨W0.heap.size, 0, none⟩) 2 2)).set_ 2 (.int .i64 1)).set_ 3 (.slice (some ⟨W1.heap.size, 0, none⟩) 1 1)).set_ 4 (.int .i64 0)).set_ 5 (.slice (some ⟨W2.heap.size, 0, none⟩) 1 1)).set_ 6 (.int .i64 0)).set_ 7 (.slice none 0 0))) rfl ?_
  have n0 : ∀ {m : Nat}, 0 < m → ∀ ad, some (⟨W0.heap.size, 0, none⟩ : Addr) = some ad → ad.block ≠ b0 := fun _ ad e => by injection e with e; subst e; show W0.heap.size ≠ b0; omega
  have n1 : ∀ {m : Nat}, 0 < m → ∀ ad, some (⟨W1.heap.size, 0, none⟩ : Addr) = some ad → ad.block ≠ b0 := fun _ ad e => by injection e with e; subst e; show W1.heap.size ≠ b0; omega
  have n2 : ∀ {m : Nat}, 0 < m → ∀ ad, some (⟨W2.heap.size, 0, none⟩ : Addr) = some ad → ad.block ≠ b0 := fun _ ad e => by injection e with e; subst e; show W2.heap.size ≠ b0; omega
  have y1 := ((((((((HS1.out.setCell n0 0 (.int .i64 0)).setCell n0 1 (.slice (some ⟨W0.heap.size, 0, none⟩) 2 2)).setCell n0 2 (.int .i64 1)).setCell n0 3 (.slice (some ⟨W1.heap.size, 0, none⟩) 1 1)).setCell n0 4 (.int .i64 0)).setCell n0 5 (.slice (some ⟨W2.heap.size, 0, none⟩) 1 1)).setCell n0 6 (.int .i64 0)).setCell n0 7 (.slice none 0 0))
  have y2 := ((((((((HS2.out.setCell n1 0 (.int .i64 0)).setCell n1 1 (.slice (some ⟨W0.heap.size, 0, none⟩) 2 2)).setCell n1 2 (.int .i64 1)).setCell n1 3 (.slice (some ⟨W1.heap.size, 0, none⟩) 1 1)).setCell n1 4 (.int .i64 0)).setCell n1 5 (.slice (some ⟨W2.heap.size, 0, none⟩) 1 1)).setCell n1 6 (.int .i64 0)).setCell n1 7 (.slice none 0 0))
  have y3 := ((((((((HS3.out.setCell n2 0 (.int .i64 0)).setCell n2 1 (.slice (some ⟨W0.heap.size, 0, none⟩) 2 2)).setCell n2 2 (.int .i64 1)).setCell n2 3 (.slice (some ⟨W1.heap.size, 0, none⟩) 1 1)).setCell n2 4 (.int .i64 0)).setCell n2 5 (.slice (some ⟨W2.heap.size, 0, none⟩) 1 1)).setCell n2 6 (.int .i64 0)).setCell n2 7 (.slice none 0 0))
  have hw := ((((((((HW.out.setCell (p := ⟨b0, 0, none⟩) (Nat.le_of_eq HZ.out) (.int .i64 0)).setCell (p := ⟨b0, 1, none⟩) (Nat.le_of_eq HZ.out) (.slice (some ⟨W0.heap.size, 0, none⟩) 2 2)).setCell (p := ⟨b0, 2, none⟩) (Nat.le_of_eq HZ.out) (.int .i64 1)).setCell (p := ⟨b0, 3, none⟩) (Nat.le_of_eq HZ.out) (.slice (some ⟨W1.heap.size, 0, none⟩) 1 1)).setCell (p := ⟨b0, 4, none⟩) (Nat.le_of_eq HZ.out) (.int .i64 0)).setCell (p := ⟨b0, 5, none⟩) (Nat.le_of_eq HZ.out) (.slice (some ⟨W2.heap.size, 0, none⟩) 1 1)).setCell (p := ⟨b0, 6, none⟩) (Nat.le_of_eq HZ.out) (.int .i64 0)).setCell (p := ⟨b0, 7, none⟩) (Nat.le_of_eq HZ.out) (.slice none 0 0))
  unfold GivesB e00 e01 e10 e11
  simp only [if_pos h0, canon_one_tT, canon_tT, canon_one, canon_zero]
  exact ⟨_, _, _, _, _, _, _, _, _, _, _, _, rfl, y1, y2, y3, SL.nil_ _, fun _ ad e => by injection e with e; subst e; show w.heap.size ≤ W1.heap.size; have := HZ.out; omega, fun _ ad e => (by cases e), hw⟩

set_option maxRecDepth 100000 in
set_option maxHeartbeats 4000000 in
theorem block_neg (x : Int) (w : World) (h0 : ¬ 0 < x) : Calls Try.prog 115 #[.int .i64 x] w (GivesB w x) := by
  have hW0 : Below w.heap.size w (w.alloc (.cells #[.int .i64 0, .slice none 0 0, .int .i64 0, .slice none 0 0, .int .i64 0, .slice none 0 0, .int .i64 0, .slice none 0 0] 120)) := (Below.refl _ _).alloc (Nat.le_refl _) _
  have HW := hide hW0
  have HK := hide (Blk.new w 120 #[.int .i64 0, .slice none 0 0, .int .i64 0, .slice none 0 0, .int .i64 0, .slice none 0 0, .int .i64 0, .slice none 0 0])
  go_enter Try.func115, Try.ntmps115
  go_upto_region 3 with fail
  obtain ⟨W0, hw0⟩ : ∃ W, w.alloc (.cells #[.int .i64 0, .slice none 0 0, .int .i64 0, .slice none 0 0, .int .i64 0, .slice none 0 0, .int .i64 0, .slice none 0 0] 120) = W := ⟨_, rfl⟩
  have hz0 : w.heap.size < W0.heap.size := by rw [← hw0]; simp
  rw [hw0] at HW HK ⊢
  obtain ⟨b0, hb0⟩ : ∃ b, w.heap.size = b := ⟨_, rfl⟩
  rw [hb0] at hz0 HK ⊢
  have HZ := hide hb0
  clear hw0 hb0 hW0
  go_wp2_with fail
  have hl := SL.lit W0 [1] (by decide) (cs := #[.int .i64 1]) rfl (m := 1) rfl
  have hb := (Below.refl W0.heap.size W0).alloc (Nat.le_refl _) (.cells #[.int .i64 1] 3)
  obtain ⟨V1, hV⟩ : ∃ V, W0.alloc (.cells #[.int .i64 1] 3) = V := ⟨_, rfl⟩
  rw [hV] at hl hb ⊢
  refine (bpoly_any 0 _ _ _ V1).mono ?_
  rintro e W1 ⟨rfl, hc⟩
  have hbc := hb.trans (hc.mono hb.size)
  have HS1 := hide (hl.below hc)
  replace HW := hide (HW.out.trans (hbc.mono HW.out.size))
  replace HK := hide (HK.out.below hbc (by omega))
  have hz1 : b0 < W1.heap.size := by have := hbc.size; omega
  clear hl hb hc hbc hV
  go_wp2_with fail
  have hl := SL.lit W1 [1] (by decide) (cs := #[.int .i64 1]) rfl (m := 1) rfl
  have hb := (Below.refl W1.heap.size W1).alloc (Nat.le_refl _) (.cells #[.int .i64 1] 3)
  obtain ⟨V2, hV⟩ : ∃ V, W1.alloc (.cells #[.int .i64 1] 3) = V := ⟨_, rfl⟩
  rw [hV] at hl hb ⊢
  refine (bpoly_any (-1) _ _ _ V2).mono ?_
  rintro e W2 ⟨rfl, hc⟩
  have hbc := hb.trans (hc.mono hb.size)
  have HS2 := hide (hl.below hc)
  replace HS1 := hide (HS1.out.below hbc)
  replace HW := hide (HW.out.trans (hbc.mono HW.out.size))
  replace HK := hide (HK.out.below hbc (by omega))
  have hz2 : b0 < W2.heap.size := by have := hbc.size; omega
  clear hl hb hc hbc hV
  go_wp2_with fail
  have hl := SL.lit W2 [-1, 1] (by decide) (cs := #[.int .i64 (-1), .int .i64 1]) rfl (m := 2) rfl
  have hb := (Below.refl W2.heap.size W2).alloc (Nat.le_refl _) (.cells #[.int .i64 (-1), .int .i64 1] 3)
  obtain ⟨V3, hV⟩ : ∃ V, W2.alloc (.cells #[.int .i64 (-1), .int .i64 1] 3) = V := ⟨_, rfl⟩
  rw [hV] at hl hb ⊢
  refine (bpoly_any (-1) _ _ _ V3).mono ?_
  rintro e W3 ⟨rfl, hc⟩
  have hbc := hb.trans (hc.mono hb.size)
  have HS3 := hide (hl.below hc)
  replace HS1 := hide (HS1.out.below hbc)
  replace HS2 := hide (HS2.out.below hbc)
  replace HW := hide (HW.out.trans (hbc.mono HW.out.size))
  replace HK := hide (HK.out.below hbc (by omega))
  have hz3 : b0 < W3.heap.size := by have := hbc.size; omega
  clear hl hb hc hbc hV
  have f0 := HK.out.frozen 0
  have g0 := HK.out.cell 0
  have f1 := HK.out.frozen 1
  have g1 := HK.out.cell 1
  have f2 := HK.out.frozen 2
  have g2 := HK.out.cell 2
  have f3 := HK.out.frozen 3
  have g3 := HK.out.cell 3
  have f4 := HK.out.frozen 4
  have g4 := HK.out.cell 4
  have f5 := HK.out.frozen 5
  have g5 := HK.out.cell 5
  have f6 := HK.out.frozen 6
  have g6 := HK.out.cell 6
  have f7 := HK.out.frozen 7
  have g7 := HK.out.cell 7
  simp at g0 g1 g2 g3 g4 g5 g6 g7
  go_wp2_with fail
  refine bodyPost_ret (results_sq rfl _ rfl ((((((((HK.out.set_ 0 (.int .i64 0)).set_ 1 (.slice none 0 0)).set_ 2 (.int .i64 0)).set_ 3 (.slice (some ⟨W0.heap.size, 0, none⟩) 1 1)).set_ 4 (.int .i64 (-1))).set_ 5 (.slice (some ⟨W1.heap.size, 0, none⟩) 1 1)).set_ 6 (.int .i64 (-1))).set_ 7 (.slice (some ⟨W2.heap.size, 0, none⟩) 2 2))) rfl ?_
  have n0 : ∀ {m : Nat}, 0 < m → ∀ ad, some (⟨W0.heap.size, 0, none⟩ : Addr) = some ad → ad.block ≠ b0 := fun _ ad e => by injection e with e; subst e; show W0.heap.size ≠ b0; omega
  have n1 : ∀ {m : Nat}, 0 < m → ∀ ad, some (⟨W1.heap.size, 0, none⟩ : Addr) = some ad → ad.block ≠ b0 := fun _ ad e => by injection e with e; subst e; show W1.heap.size ≠ b0; omega
  have n2 : ∀ {m : Nat}, 0 < m → ∀ ad, some (⟨W2.heap.size, 0, none⟩ : Addr) = some ad → ad.block ≠ b0 := fun _ ad e => by injection e with e; subst e; show W2.heap.size ≠ b0; omega
  have y1 := ((((((((HS1.out.setCell n0 0 (.int .i64 0)).setCell n0 1 (.slice none 0 0)).setCell n0 2 (.int .i64 0)).setCell n0 3 (.slice (some ⟨W0.heap.size, 0, none⟩) 1 1)).setCell n0 4 (.int .i64 (-1))).setCell n0 5 (.slice (some ⟨W1.heap.size, 0, none⟩) 1 1)).setCell n0 6 (.int .i64 (-1))).setCell n0 7 (.slice (some ⟨W2.heap.size, 0, none⟩) 2 2))
  have y2 := ((((((((HS2.out.setCell n1 0 (.int .i64 0)).setCell n1 1 (.slice none 0 0)).setCell n1 2 (.int .i64 0)).setCell n1 3 (.slice (some ⟨W0.heap.size, 0, none⟩) 1 1)).setCell n1 4 (.int .i64 (-1))).setCell n1 5 (.slice (some ⟨W1.heap.size, 0, none⟩) 1 1)).setCell n1 6 (.int .i64 (-1))).setCell n1 7 (.slice (some ⟨W2.heap.size, 0, none⟩) 2 2))
  have y3 := ((((((((HS3.out.setCell n2 0 (.int .i64 0)).setCell n2 1 (.slice none 0 0)).setCell n2 2 (.int .i64 0)).setCell n2 3 (.slice (some ⟨W0.heap.size, 0, none⟩) 1 1)).setCell n2 4 (.int .i64 (-1))).setCell n2 5 (.slice (some ⟨W1.heap.size, 0, none⟩) 1 1)).setCell n2 6 (.int .i64 (-1))).setCell n2 7 (.slice (some ⟨W2.heap.size, 0, none⟩) 2 2))
  have hw := ((((((((HW.out.setCell (p := ⟨b0, 0, none⟩) (Nat.le_of_eq HZ.out) (.int .i64 0)).setCell (p := ⟨b0, 1, none⟩) (Nat.le_of_eq HZ.out) (.slice none 0 0)).setCell (p := ⟨b0, 2, none⟩) (Nat.le_of_eq HZ.out) (.int .i64 0)).setCell (p := ⟨b0, 3, none⟩) (Nat.le_of_eq HZ.out) (.slice (some ⟨W0.heap.size, 0, none⟩) 1 1)).setCell (p := ⟨b0, 4, none⟩) (Nat.le_of_eq HZ.out) (.int .i64 (-1))).setCell (p := ⟨b0, 5, none⟩) (Nat.le_of_eq HZ.out) (.slice (some ⟨W1.heap.size, 0, none⟩) 1 1)).setCell (p := ⟨b0, 6, none⟩) (Nat.le_of_eq HZ.out) (.int .i64 (-1))).setCell (p := ⟨b0, 7, none⟩) (Nat.le_of_eq HZ.out) (.slice (some ⟨W2.heap.size, 0, none⟩) 2 2))
  unfold GivesB e00 e01 e10 e11
  simp only [if_neg (show ¬ 0 < x by omega), canon_one_tI, canon_tI, canon_one, canon_zero]
  exact ⟨_, _, _, _, _, _, _, _, _, _, _, _, rfl, SL.nil_ _, y1, y2, y3, fun _ ad e => by injection e with e; subst e; show w.heap.size ≤ W0.heap.size; have := HZ.out; omega, fun _ ad e => by injection e with e; subst e; show w.heap.size ≤ W2.heap.size; have := HZ.out; omega, hw⟩

theorem block_any (x : Int) (w : World) : Calls Try.prog 115 #[.int .i64 x] w (GivesB w x) := by
  by_cases h0 : 0 < x
  · exact block_pos x w h0
  · exact block_neg x w h0
end Go.Proofs.Ytndgffiihbdppaa
