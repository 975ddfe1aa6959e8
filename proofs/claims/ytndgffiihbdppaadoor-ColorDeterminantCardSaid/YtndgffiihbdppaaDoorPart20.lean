/- Several texts in one. -/
import Derived.Test.YtndgffiihbdppaaDoorPart6
import Derived.Test.YtndgffiihbdppaaDoorPart5
import Derived.Test.YtndgffiihbdppaaDoorPart19
import Derived.Test.YtndgffiihbdppaaDoorBase1
import Derived.Test.YtndgffiihbdppaaDoorPart13
import Derived.Test.YtndgffiihbdppaaDoorPart1
import Derived.Test.YtndgffiihbdppaaDoorPart12
/- Package alexander: what fits (mathematics). -/
namespace Go.Proofs.YtndgffiihbdppaaDoor
set_option linter.unusedVariables false
set_option linter.unusedSimpArgs false
open CR

/-- The Burau matrices of two words, and all that is made of them, fit. -/
structure AlF (N : Nat) (u v : List Int) : Prop where
  ru : ∀ i, i < N → ∀ j, j < N → LP.Rt (bu N u i j)
  rv : ∀ i, i < N → ∀ j, j < N → LP.Rt (bu N v i j)
  rp : ∀ i, i < N → ∀ k, k < N → ∀ j, j < N → LP.Rt (bu N u i k * bu N v k j)
  rs : ∀ i, i < N → ∀ j, j < N → ∀ m, m ≤ N → LP.Rt (CR.sumN m fun k => bu N u i k * bu N v k j)
  sm : ∀ i, i < N → ∀ j, j < N → LP.N1 (bu N (u ++ v) i j) 20 99999999
theorem AlF.of_RN {N E1 E2 V1 V2 : Nat} {u v : List Int} (h1 : RN N (bu N u) E1 V1) (h2 : RN N (bu N v) E2 V2) (hE : E1 + E2 ≤ 20) (hV : V1 * V2 ≤ 99999999) (a1 : V1 ≤ 100000000) (a2 : V2 ≤ 100000000) : AlF N u v := by
  refine ⟨fun i hi j hj => (h1.entry hi hj).rt (by omega) a1, fun i hi j hj => (h2.entry hi hj).rt (by omega) a2, fun i hi k hk j hj => ((h1.entry hi hk).mul (h2.entry hk hj)).rt (by omega) (by omega), fun i hi j hj m hm => (h1.part h2 hi hj hm).rt (by omega) (by omega), fun i hi j hj => ?_⟩
  rw [bu_append N u v i hi j hj]
  exact (h1.part h2 hi hj (Nat.le_refl _)).mono hE hV
theorem AlF.short {N : Nat} {u v : List Int} (hl : u.length + v.length ≤ 16) : AlF N u v := by
  have p1 : 3 ^ u.length ≤ 43046721 := pow3 (by omega)
  have p2 : 3 ^ v.length ≤ 43046721 := pow3 (by omega)
  refine AlF.of_RN (bu_rn u) (bu_rn v) (by omega) ?_ (by omega) (by omega)
  rw [← Nat.pow_add]
  have := pow3 hl
  omega
theorem rn_ten {u : List Int} (hu : okB 2 u) (hl : u.length ≤ 10) : RN 2 (bu 2 u) 10 4968 := by
  have o1 : okB 2 (u.drop 1) := fun x hx => hu x (List.mem_of_mem_drop hx)
  have h1 : RN 2 (bu 2 (u.drop 1)) 9 1656 := ⟨fun _ _ => 828, fun i hi j hj => bu_small (Nat.le_refl 2) (by omega) o1 (by simp; omega) hi hj, fun i hi => by show 0 + 828 + 828 ≤ 1656; omega⟩
  have h2 : RN 2 (bu 2 (u.take 1)) 1 3 := (bu_rn (u.take 1)).mono (by simp; omega) (by
    have : 3 ^ (u.take 1).length ≤ 3 ^ 1 := Nat.pow_le_pow_right (by omega) (by simp; omega)
    simpa using this)
  have h3 := (h2.mul h1).congr (EqM.symm (bu_append 2 (u.take 1) (u.drop 1)))
  rw [List.take_append_drop] at h3
  exact h3
theorem AlF.two {u v : List Int} (hu : okB 2 u) (hv : okB 2 v) (lu : u.length ≤ 10) (lv : v.length ≤ 10) : AlF 2 u v :=
  AlF.of_RN (rn_ten hu lu) (rn_ten hv lv) (by omega) (by decide) (by decide) (by decide)
theorem okB_one {w : List Int} (h : okB 1 w) : w = [] := by
  cases w with
  | nil => rfl
  | cons x w => have := h x (by simp); omega
theorem AlF.all {N : Nat} {w : List Int} (hw : okB N w) (h1 : 1 ≤ N) (hl : w.length ≤ 20) (hf : w.length ≤ 16 ∨ N ≤ 2) : AlF N (w.take (w.length / 2)) (w.drop (w.length / 2)) := by
  by_cases h : w.length ≤ 16
  · exact AlF.short (by rw [List.length_take, List.length_drop]; omega)
  · have h2 : N = 2 := by
      by_cases e : N = 1
      · subst e
        rw [okB_one hw] at h
        simp at h
      · omega
    subst h2
    exact AlF.two (fun x hx => hw x (List.mem_of_mem_take hx)) (fun x hx => hw x (List.mem_of_mem_drop hx)) (by rw [List.length_take]; omega) (by rw [List.length_drop]; omega)
/-- The identity matrix less a Burau matrix. -/
noncomputable def imA (N : Nat) (w : List Int) : Mtx LP := fun i j => oneM i j + -(bu N w i j)
theorem adet_im (N : Nat) (w : List Int) : adet N w = detR (N - 1) (imA N w) := rfl
theorem imA_n1 {N : Nat} {w : List Int} {i j : Nat} (h : LP.N1 (bu N w i j) 20 99999999) : LP.N1 (imA N w i j) 20 100000000 := by
  have h1 : LP.N1 ((oneM : Mtx LP) i j) 20 1 := by
    unfold oneM
    split
    · exact LP.N1.one.mono (by omega) (by omega)
    · exact LP.N1.zero.mono (by omega) (by omega)
  exact (h1.add h.neg).mono (Nat.le_refl _) (by omega)
theorem detR_1 (M : Mtx LP) : detR 1 M = M 0 0 := by
  show CR.sumN 1 (fun j => CR.sgR LP j * (M 0 j * 1)) = _
  rw [CR.sumN_succ]
  show CR.sumN 0 _ + CR.sgR LP 0 * (M 0 0 * 1) = _
  rw [CR.mul_one]
  show 0 + 1 * M 0 0 = _
  rw [CR.zero_add, CR.one_mul]
theorem CE.of_n1 {x : LP} {E V : Nat} (h : LP.N1 x E V) : CE x E V := ⟨fun k hk => h.supp hk, h.co⟩
/-- The determinant fits. -/
theorem adet_ce {N : Nat} {w : List Int} (hw : okB N w) (h1 : 1 ≤ N) (h6 : N ≤ 6) (hl : w.length ≤ 20) (hf : w.length ≤ 16 ∨ N ≤ 2) : CE (adet N w) 20 100000000 := by
  by_cases h : w.length ≤ 16
  · obtain ⟨M, rfl⟩ : ∃ M, N = M + 1 := ⟨N - 1, by omega⟩
    exact (adet_16 (by omega) hw h).mono (by omega) (by omega)
  · have h2 : N = 2 := by
      by_cases e : N = 1
      · subst e
        rw [okB_one hw] at h
        simp at h
      · omega
    subst h2
    have h3 := (AlF.all hw h1 hl hf).sm 0 (by omega) 0 (by omega)
    rw [List.take_append_drop] at h3
    rw [adet_im, show 2 - 1 = 1 from rfl, detR_1]
    exact CE.of_n1 (imA_n1 h3)
/-- The matrix as lists of polynomials. -/
noncomputable def imL (N : Nat) (w : List Int) : List (List Po) := (List.range (N - 1)).map fun i => (List.range (N - 1)).map fun j => cP (imA N w i j)
theorem tabA_at {k : Nat} {X : Mtx LP} {i j : Nat} (hi : i < k) (hj : j < k) : (((List.range k).map fun i => (List.range k).map fun j => cP (X i j)).getD i []).getD j (0, []) = cP (X i j) := by simp [List.getD, hi, hj]
theorem imL_det (N : Nat) (w : List Int) : detR (N - 1) (pmM (imL N w) (colL (N - 1))) = adet N w := by
  rw [pmM_colL, adet_im]
  refine detR_congr fun i hi j hj => ?_
  unfold mP imL
  rw [tabA_at hi hj]
  exact of_cP _
/-- The first coefficients. -/
theorem CE.take_ {b : Int} {ys : List Int} {E V : Nat} (h : CE (LP.of b ys) E V) (i : Nat) : CE (LP.of b (ys.take i)) E V := by
  have e : ∀ k, LP.co (LP.of b (ys.take i)) k = 0 ∨ LP.co (LP.of b (ys.take i)) k = LP.co (LP.of b ys) k := fun k => by
    rw [LP.co_of, LP.co_of, List.length_take]
    by_cases h1 : b ≤ k ∧ k < b + (min i ys.length : Nat)
    · rw [if_pos h1, if_pos (by omega)]
      right
      simp only [List.getD, List.getElem?_take]
      rw [if_pos (by omega)]
    · rw [if_neg h1]
      exact .inl rfl
  refine ⟨fun k hk => h.ex k ?_, fun k => ?_⟩
  · rcases e k with e1 | e1
    · exact absurd e1 hk
    · rwa [← e1]
  · rcases e k with e1 | e1
    · rw [e1]; exact Nat.zero_le _
    · rw [e1]; exact h.cf k
theorem CE.at_ {b : Int} {ys : List Int} {E V : Nat} (h : CE (LP.of b ys) E V) {i : Nat} (hi : i < ys.length) : (ys.getD i 0).natAbs ≤ V ∧ (ys.getD i 0 ≠ 0 → (b + i).natAbs ≤ E) := by
  have e : LP.co (LP.of b ys) (b + i) = ys.getD i 0 := by
    rw [LP.co_of, if_pos (by omega), show (b + (i : Int) - b).toNat = i by omega]
  refine ⟨by rw [← e]; exact h.cf _, fun h0 => h.ex _ (by rw [e]; exact h0)⟩
theorem canon_tm {e c : Int} (h : c ≠ 0) : LP.canon (LP.term e c) = (e, [c]) := LP.canon_eq (.inr ⟨by simp, by simpa using h, by simpa using h⟩) (LP.of_one e c)
/-- One coefficient more. -/
theorem canon_more {b : Int} {ys : List Int} (h : CE (LP.of b ys) 20 100000000) {i : Nat} (hi : i < ys.length) (h0 : ys.getD i 0 ≠ 0) :
    LP.addR (LP.canon (LP.of b (ys.take i))).1 (LP.canon (LP.of b (ys.take i))).2 (b + i) [ys.getD i 0] = (0, (LP.canon (LP.of b (ys.take (i + 1)))).1, (LP.canon (LP.of b (ys.take (i + 1)))).2) := by
  have r1 : LP.Rt (LP.of b (ys.take i)) := (h.take_ i).rt (by omega) (Nat.le_refl _)
  have r3 : LP.Rt (LP.of b (ys.take (i + 1))) := (h.take_ (i + 1)).rt (by omega) (Nat.le_refl _)
  obtain ⟨c1, c2⟩ := h.at_ hi
  have c3 := c2 h0
  have r2 : LP.Rt (LP.term (b + i) (ys.getD i 0)) := ((LP.N1.term (b + i) (ys.getD i 0)).mono c3 c1).rt (by omega) (Nat.le_refl _)
  have e := LP.addR_canon r1 r2 (by rw [← LP.of_take hi]; exact r3)
  rw [← LP.of_take hi, canon_tm h0] at e
  exact e
theorem canon_same {b : Int} {ys : List Int} {i : Nat} (hi : i < ys.length) (h0 : ys.getD i 0 = 0) : LP.of b (ys.take (i + 1)) = LP.of b (ys.take i) := by
  rw [LP.of_take hi, h0]
  refine LP.ext fun k => ?_
  rw [LP.co_add, LP.co_term]
  split <;> omega
theorem alP_eq {N : Nat} {w : List Int} (h : alE (N : Int) w = 0) : alP (N : Int) w = LP.normC (LP.canon (adet N w)).2 := by unfold alP; rw [if_pos h, Int.toNat_natCast]
end Go.Proofs.YtndgffiihbdppaaDoor
/- Package polymatrix: expand. -/
namespace Go.Proofs.YtndgffiihbdppaaDoor
set_option linter.unusedVariables false
set_option linter.unusedSimpArgs false
open Go.RowKit

theorem cell_at_var {w : World} {a : Addr} {v : Value} (h : w.cell? a = some v) : ∃ g o, a = ⟨g, o, none⟩ := by
  obtain ⟨g, o, p⟩ := a
  cases p with
  | none => exact ⟨g, o, rfl⟩
  | some p =>
    exfalso
    unfold World.cell? at h
    split at h
    · simp at h
    · cases h
theorem rangeAt_two {z : World} {g o : Nat} {u v : Value} (h0 : z.cell? ⟨g, o, none⟩ = some u) (h1 : z.cell? ⟨g, o + 1, none⟩ = some v) : z.rangeAt g o [u, v] := fun j x hx => by
  match j, hx with
  | 0, hx => injection hx with hx; rw [← hx]; exact h0
  | 1, hx => injection hx with hx; rw [← hx]; exact h1
theorem SPP.tail_ {w : World} {A : Option Addr} {n c : Nat} {pss : List (List Po)} (h : SPP w A n c pss) (h1 : 1 ≤ n) : SPP w (cutA A 1 c) (n - 1) (c - 1) (pss.drop 1) := by
  have hl := h.len
  have hc := h.cap
  refine ⟨by simp; omega, by have := h.small; omega, fun e => cutA_none h.nil h1 (Nat.le_refl n) e, by omega, fun h0 => ?_⟩
  obtain ⟨ad, rfl, hlt, hcl⟩ := h.mem (by omega)
  unfold cutA
  rw [if_neg (by omega)]
  refine ⟨ad.add 1, rfl, by rw [block_of_add]; exact hlt, fun j hj => ?_⟩
  rw [add_of_add]
  obtain ⟨B, m, d, q1, q2⟩ := hcl (1 + j) (by omega)
  refine ⟨B, m, d, q1, ?_⟩
  rw [show (pss.drop 1).getD j [] = pss.getD (1 + j) [] by simp [List.getD, List.getElem?_drop, Nat.add_comm]]
  exact q2
theorem SPP.blk {w : World} {A : Option Addr} {n c : Nat} {pss : List (List Po)} (h : SPP w A n c pss) (h1 : 1 ≤ n) : ∀ ad, A = some ad → ad.block < w.heap.size := fun ad e => by
  obtain ⟨ad2, e2, hl, _⟩ := h.mem (by omega)
  rw [e] at e2
  cases e2
  exact hl

end Go.Proofs.YtndgffiihbdppaaDoor
/- Package alexander: rowTimesColumn. (Written by tools/gen_al1.py.) -/
namespace Go.Proofs.YtndgffiihbdppaaDoor
set_option linter.unusedVariables false
set_option linter.unusedSimpArgs false
open Go.RowKit

theorem eAlMul : ∀ args w, (callFunc 71 args).run Tryd.prog w = .ok (.enter 71 args) w := enters (fn := Tryd.f71) (by kernel_rfl) (by kernel_rfl) (by kernel_rfl)
theorem eAlSub : ∀ args w, (callFunc 51 args).run Tryd.prog w = .ok (.enter 51 args) w := enters (fn := Tryd.f51) (by kernel_rfl) (by kernel_rfl) (by kernel_rfl)
theorem al_mul (F : PolyC) {x y : LP} (hx : LP.Rt x) (hy : LP.Rt y) (hz : LP.Rt (x * y)) (w : World) (A : Option Addr) (n c : Nat) (B : Option Addr) (m d : Nat) (ha : SL w A n c (LP.canon x).2) (hb : SL w B m d (LP.canon y).2) :
    Calls Tryd.prog 71 #[PV (LP.canon x).1 A n c, PV (LP.canon y).1 B m d] w (GivesPE w (0, (LP.canon (x * y)).1, (LP.canon (x * y)).2)) := by
  have h := F.mul (LP.canon x).1 A n c (LP.canon x).2 (LP.canon y).1 B m d (LP.canon y).2 w ha hb hx.wf hy.wf
  rw [LP.mulR_canon hx hy hz] at h
  exact h
theorem al_add (F : PolyC) {x y : LP} (hx : LP.Rt x) (hy : LP.Rt y) (hz : LP.Rt (x + y)) (w : World) (A : Option Addr) (n c : Nat) (B : Option Addr) (m d : Nat) (ha : SL w A n c (LP.canon x).2) (hb : SL w B m d (LP.canon y).2) :
    Calls Tryd.prog 50 #[PV (LP.canon x).1 A n c, PV (LP.canon y).1 B m d] w (GivesPE w (0, (LP.canon (x + y)).1, (LP.canon (x + y)).2)) := by
  have h := F.add (LP.canon x).1 A n c (LP.canon x).2 (LP.canon y).1 B m d (LP.canon y).2 w ha hb hx.wf hy.wf
  rw [LP.addR_canon hx hy hz] at h
  exact h
theorem al_sub (F : PolyC) {x y : LP} (hx : LP.Rt x) (hy : LP.Rt y) (hz : LP.Rt (x + -y)) (w : World) (A : Option Addr) (n c : Nat) (B : Option Addr) (m d : Nat) (ha : SL w A n c (LP.canon x).2) (hb : SL w B m d (LP.canon y).2) :
    Calls Tryd.prog 51 #[PV (LP.canon x).1 A n c, PV (LP.canon y).1 B m d] w (GivesPE w (0, (LP.canon (x + -y)).1, (LP.canon (x + -y)).2)) := by
  have h := F.sub (LP.canon x).1 A n c (LP.canon x).2 (LP.canon y).1 B m d (LP.canon y).2 w ha hb hx.wf hy.wf
  rw [LP.subR_canon hx hy hz] at h
  exact h

set_option maxRecDepth 100000 in
set_option maxHeartbeats 8000000 in
theorem rtc_any (F : PolyC) (A : Option Addr) (n c : Nat) (ps : List Po) (B : Option Addr) (m d : Nat) (pss : List (List Po)) (j : Nat) (X Y : Nat → LP) (w : World) (ha : SPo w A n c ps) (hb : SPP w B m d pss) (hnm : n ≤ m)
    (hX : ∀ k, k < n → ps.getD k (0, []) = cP (X k)) (hY : ∀ k, k < n → (pss.getD k []).getD j (0, []) = cP (Y k)) (hl : ∀ k, k < n → j < (pss.getD k []).length)
    (rX : ∀ k, k < n → LP.Rt (X k)) (rY : ∀ k, k < n → LP.Rt (Y k)) (rP : ∀ k, k < n → LP.Rt (X k * Y k)) (rS : ∀ k, k ≤ n → LP.Rt (CR.sumN k fun i => X i * Y i)) :
    Calls Tryd.prog 53 #[.slice A n c, .slice B m d, .int .i64 j] w (GivesP w (LP.canon (CR.sumN n fun i => X i * Y i)).1 (LP.canon (CR.sumN n fun i => X i * Y i)).2) := by
  have HM := hide (fun k (hk : k < n) => al_mul F (rX k hk) (rY k hk) (rP k hk))
  obtain ⟨S, hS⟩ : ∃ S : Nat → LP, (fun k => CR.sumN k fun i => X i * Y i) = S := ⟨_, rfl⟩
  have hS0 : LP.canon (S 0) = (0, []) := by rw [← hS]; exact LP.canon_zero
  have HD := hide (fun k (hk : k < n) => (by
    have h := al_add F (rS k (by omega)) (rP k hk) (by have := rS (k + 1) hk; rwa [CR.sumN_succ] at this)
    rw [← CR.sumN_succ k (fun i => X i * Y i)] at h
    have e : ∀ i, (CR.sumN i fun i => X i * Y i) = S i := fun i => congrFun hS i
    rw [e, e] at h
    exact h :
    ∀ (w : World) (A : Option Addr) (n c : Nat) (B : Option Addr) (m d : Nat), SL w A n c (LP.canon (S k)).2 → SL w B m d (LP.canon (X k * Y k)).2 → Calls Tryd.prog 50 #[PV (LP.canon (S k)).1 A n c, PV (LP.canon (X k * Y k)).1 B m d] w (GivesPE w (0, (LP.canon (S (k + 1))).1, (LP.canon (S (k + 1))).2))))
  have eS : (CR.sumN n fun i => X i * Y i) = S n := congrFun hS n
  rw [eS]
  have HA := hide ha
  have HB := hide hb
  have HXX := hide hX
  have HYY := hide hY
  have HLL := hide hl
  have HNM := hide hnm
  have hsm := ha.small
  have HS0 := hide hS0
  clear ha hb hX hY hl rX rY rP rS hS eS F hS0 hnm
  obtain ⟨W0, hW0⟩ : ∃ W, (w.alloc (.cells #[.int .i64 0, .slice none 0 0] 50)).alloc (.cells #[.int .i64 0, .slice none 0 0] 50) = W := ⟨_, rfl⟩
  have hb0 : Below w.heap.size w W0 := by
    rw [← hW0]
    exact ((Below.refl _ _).alloc (Nat.le_refl _) _).alloc (by simp) _
  have K6 : Hid (Blk W0 w.heap.size 50 #[.int .i64 0, .slice none 0 0]) := hide (by rw [← hW0]; exact (Blk.new w _ _).alloc _)
  have K7 : Hid (Blk W0 (w.heap.size + 1) 50 #[.int .i64 (LP.canon (S 0)).1, .slice none 0 0]) := hide (by
    rw [← hW0, HS0.out]
    have h := Blk.new (w.alloc (.cells #[.int .i64 0, .slice none 0 0] 50)) 50 #[.int .i64 0, .slice none 0 0]
    simpa using h)
  have HW := hide hb0
  have SR : Hid (SL W0 none 0 0 (LP.canon (S 0)).2) := hide (by rw [HS0.out]; exact SL.nil_ _)
  clear hb0
  go_enter Tryd.func53, Tryd.ntmps53
  go_upto_region 2 with fail
  clear HS0
  obtain ⟨b6, hb6⟩ : ∃ b, w.heap.size = b := ⟨_, rfl⟩
  rw [hb6] at K6 K7 ⊢
  obtain ⟨b7, hb7⟩ : ∃ b, b6 + 1 = b := ⟨_, rfl⟩
  rw [hb7] at K7 ⊢
  have h67 : b6 ≠ b7 := by omega
  have HWB : Hid (w.heap.size ≤ b6 ∧ w.heap.size ≤ b7) := hide (by omega)
  clear hW0 hb6 hb7
  go_wp2_with fail
  go_loopw [14] (fun iv wx => ∃ (k : Nat) (R : Option Addr) (rn rc : Nat), iv = .int .i64 k ∧ k ≤ n ∧ Hid (Blk wx b6 50 #[.int .i64 0, .slice none 0 0]) ∧ Hid (Blk wx b7 50 #[.int .i64 (LP.canon (S k)).1, .slice R rn rc]) ∧ Hid (SL wx R rn rc (LP.canon (S k)).2) ∧ Hid (0 < rn → ∀ ad, R = some ad → b6 < ad.block ∧ b7 < ad.block) ∧ Hid (Below w.heap.size w wx)) (fun iv _ => n - (intOf iv).toNat)
  case atStart => exact ⟨0, none, 0, 0, rfl, Nat.zero_le _, K6, K7, SR, hide (fun h => absurd h (by omega)), HW⟩
  case round =>
    clear K6 K7 HW SR
    obtain ⟨k, R, rn, rc, rfl, hk, K6, K7, SR, HN, HW⟩ := hrel
    by_cases hlt : k < n
    · obtain ⟨ad, P, pn, pc, hA, q0, q1, sp, _⟩ := (HA.out.below HW.out).at_ hlt
      obtain ⟨bd, Q, qn, qc, hB, q2, sq⟩ := (HB.out.below HW.out).at_ (Nat.lt_of_lt_of_le hlt HNM.out)
      have hjq : j < qn := by rw [← sq.len]; exact HLL.out k hlt
      obtain ⟨cd, T, tn, tc, hQ, q3, q4, st, _⟩ := sq.at_ hjq
      rw [HXX.out k hlt] at q0 sp
      rw [HYY.out k hlt] at q3 st
      have HMK := hide (HM.out k hlt)
      have HDK := hide (HD.out k hlt)
      subst hA
      subst hB
      subst hQ
      rw [show bd.add k = bd.add (k * 1) by rw [Nat.mul_one]] at q2
      dsimp only [cP] at q0 sp q3 st
      generalize X k * Y k = xy at *
      generalize X k = x at *
      generalize Y k = y at *
      have hb : Below wr.heap.size wr (wr.alloc (.cells #[.int .i64 (LP.canon x).1, .slice P pn pc] 50)) := (Below.refl _ _).alloc (Nat.le_refl _) _
      have Q2 := hide ((hb.cell (p := bd.add (k * 1)) (cell_lt q2)).trans q2)
      have Q3 := hide ((hb.cell (p := cd.add (j * 2)) (cell_lt q3)).trans q3)
      have Q4 := hide ((hb.cell (p := ⟨(cd.add (j * 2)).block, (cd.add (j * 2)).off + 1, none⟩) (cell_lt q4)).trans q4)
      have SP := hide (sp.below hb)
      have ST := hide (st.below hb)
      replace SR := hide (SR.out.below hb)
      replace HW := hide (HW.out.trans (hb.mono HW.out.size))
      have l6 := K6.out.lt
      have l7 := K7.out.lt
      replace K6 := hide (K6.out.below hb l6)
      replace K7 := hide (K7.out.below hb l7)
      have BP := hide (Blk.new wr 50 #[.int .i64 (LP.canon x).1, .slice P pn pc])
      have HJQ := hide hjq
      have HKM := hide (Nat.lt_of_lt_of_le hlt HNM.out)
      clear sp st sq q2 q3 q4 hb hjq l6 l7
      go_upto_region 5 with fail
      obtain ⟨bp, hq⟩ : ∃ q, wr.heap.size = q := ⟨_, rfl⟩
      obtain ⟨w1, hw⟩ : ∃ wq, wr.alloc (.cells #[.int .i64 (LP.canon x).1, .slice P pn pc] 50) = wq := ⟨_, rfl⟩
      rw [hw] at Q2 Q3 Q4 SP ST SR HW K6 K7 BP ⊢
      rw [hq] at BP ⊢
      clear hw hq q0 q1
      have LP0 := hide BP.out.lt
      obtain ⟨g3, o3, h3⟩ := cell_at_var Q3.out
      rw [h3] at Q3 Q4
      have HL2 := hide (cell_lt Q2.out)
      have HL3 := hide (cell_lt Q3.out)
      go_cut [10, 11, 19, 20, 21, 22, 23, 24, 25, 26, 27, 28, 29, 30] (fun v u _ _ _ _ _ _ _ _ _ _ _ _ wx => ∃ bG G gn gc, v = .pointer (some ⟨bG, 0, none⟩) ∧ u = .int .i64 0 ∧ Blk wx bG 50 #[.int .i64 (LP.canon xy).1, .slice G gn gc] ∧ SL wx G gn gc (LP.canon xy).2 ∧ Below w1.heap.size w1 wx)
      case first =>
        refine wp_region_noPanic ?_
        refine wp_region_held_drew (S := fun x => Below w1.heap.size w1 x) (by kernel_rfl) (Below.refl _ _).drew (fun hS0 => ?_)
        refine wpAnyH_tk 0 (v := PV (LP.canon x).1 P pn pc) rfl (by kernel_rfl) (by kernel_rfl) (by kernel_rfl) (yi rfl fun w' hw' => gives_loadRow rfl rfl (BP.out.below hw' LP0.out) Tryd.underlying50 (by kernel_rfl) (by kernel_rfl)) hS0 ?_
        go_frame
        refine wpAnyH_tk 1 (v := .slice (some bd) m d) rfl (by kernel_rfl) (by kernel_rfl) (by kernel_rfl) (yi rfl fun w' hw' => gives_move (.inl rfl) rfl) hS0 ?_
        go_frame
        refine wpAnyH_tk 2 (v := .int .i64 k) rfl (by kernel_rfl) (by kernel_rfl) (by kernel_rfl) (yi rfl fun w' hw' => gives_move (.inl rfl) rfl) hS0 ?_
        go_frame
        refine wpAnyH_tk 3 (v := .pointer (some (bd.add (k * 1)))) rfl (by kernel_rfl) (by kernel_rfl) (by kernel_rfl) (yi rfl fun w' hw' => gives_indexSlice rfl Tryd.underlying70 (fun w => by kernel_rfl) rfl rfl HKM.out) hS0 ?_
        go_frame
        refine wpAnyH_tk 4 (v := .slice (some cd) qn qc) rfl (by kernel_rfl) (by kernel_rfl) (by kernel_rfl) (yi rfl fun w' hw' => gives_load1 rfl (by kernel_rfl) rfl ((hw'.cell (p := bd.add (k * 1)) HL2.out).trans Q2.out)) hS0 ?_
        go_frame
        refine wpAnyH_tk 5 (v := .int .i64 j) rfl (by kernel_rfl) (by kernel_rfl) (by kernel_rfl) (yi rfl fun w' hw' => gives_move (.inl rfl) rfl) hS0 ?_
        go_frame
        refine wpAnyH_tk 6 (v := .pointer (some (cd.add (j * 2)))) rfl (by kernel_rfl) (by kernel_rfl) (by kernel_rfl) (yi rfl fun w' hw' => gives_indexSlice rfl Tryd.underlying83 (fun w => by kernel_rfl) rfl rfl HJQ.out) hS0 ?_
        go_frame
        rw [h3]
        refine wpAnyH_tk 7 (v := PV (LP.canon y).1 T tn tc) rfl (by kernel_rfl) (by kernel_rfl) (by kernel_rfl) (yi rfl fun w' hw' => gives_loadMid (cs := [.int .i64 (LP.canon y).1, .slice T tn tc]) rfl rfl (rangeAt_two ((hw'.cell (p := ⟨g3, o3, none⟩) HL3.out).trans Q3.out) ((hw'.cell (p := ⟨g3, o3 + 1, none⟩) HL3.out).trans Q4.out)) Tryd.underlying50 (by kernel_rfl) (by kernel_rfl)) hS0 ?_
        go_frame
        refine wpAnyH_2 8 12 rfl rfl (by kernel_rfl) ?_ ?_
        · refine wp_call [PV (LP.canon x).1 P pn pc, PV (LP.canon y).1 T tn tc] rfl rfl eAlMul rfl ((HMK.out w1.drew P pn pc T tn tc (SP.out.below hS0) (ST.out.below hS0)).mono ?_)
          rintro e u1 ⟨G, gn, gc, rfl, hs, hN, hb⟩
          dsimp only at hs ⊢
          have hS1 : Below w1.heap.size w1 u1 := hS0.trans (hb.mono hS0.size)
          have SG := hide hs
          clear hb hs
          refine ⟨_, rfl, hS1, ?_⟩
          go_frame
          refine wpAnyH_tk 9 (v := .tuple #[PV (LP.canon xy).1 G gn gc, .int .i64 0]) rfl (by kernel_rfl) (by kernel_rfl) (by kernel_rfl) (yi rfl fun w' hw' => gives_move (.inl rfl) rfl) hS1 ?_
          go_frame
          refine wpAnyH_tk 10 (v := PV (LP.canon xy).1 G gn gc) rfl (by kernel_rfl) (by kernel_rfl) (by kernel_rfl) (yi rfl fun w' hw' => gives_extract rfl rfl rfl) hS1 ?_
          go_frame
          refine wpAnyH_tk 11 (v := .int .i64 0) rfl (by kernel_rfl) (by kernel_rfl) (by kernel_rfl) (yi rfl fun w' hw' => gives_extract rfl rfl rfl) hS1 ?_
          go_frame
          refine wpAnyH_1 12 rfl (by kernel_rfl) ?_
          have hS2 : Below w1.heap.size w1 (u1.alloc (.cells #[.int .i64 0, .slice none 0 0] 50)) := hS1.alloc hS1.size _
          have hb : Below u1.heap.size u1 (u1.alloc (.cells #[.int .i64 0, .slice none 0 0] 50)) := (Below.refl _ _).alloc (Nat.le_refl _) _
          have g_bG : w1.heap.size ≤ u1.heap.size := hS1.size
          have ne_bG : 0 < gn → ∀ ad, G = some ad → ad.block ≠ u1.heap.size := fun h ad e => by obtain ⟨ad2, e2, hl, _⟩ := SG.out.il.mem h; rw [e] at e2; cases e2; omega
          replace SG := hide (SG.out.below hb)
          have BG := hide (Blk.new u1 50 #[.int .i64 0, .slice none 0 0])
          refine wp_alloc (z := .agg #[.int .i64 0, .slice none 0 0]) (cs := #[.int .i64 0, .slice none 0 0]) rfl (by kernel_rfl) rfl ⟨hS2, ?_⟩
          obtain ⟨bG, hq⟩ : ∃ q, u1.heap.size = q := ⟨_, rfl⟩
          rw [hq] at BG g_bG ne_bG ⊢
          obtain ⟨u2, hw⟩ : ∃ x, u1.alloc (.cells #[.int .i64 0, .slice none 0 0] 50) = x := ⟨_, rfl⟩
          rw [hw] at hS2 BG SG ⊢
          clear hb hw hq
          go_frame
          refine wpAnyH_1 13 rfl (by kernel_rfl) ?_
          have hS3 : Below w1.heap.size w1 (u2.setRow bG #[.int .i64 (LP.canon xy).1, .slice G gn gc]) := Below.setRow_ hS2 g_bG _
          refine wp_storeRow rfl rfl rfl BG.out (by kernel_rfl) rfl (by kernel_rfl) ⟨hS3, ?_⟩
          replace SG := hide (SG.out.setRow_ ne_bG #[.int .i64 (LP.canon xy).1, .slice G gn gc])
          have hbk2 : Blk (u2.setRow bG #[.int .i64 (LP.canon xy).1, .slice G gn gc]) bG 50 #[.int .i64 (LP.canon xy).1, .slice G gn gc] := setRow_heap _ _ _ _ _ _ BG.out
          replace BG := hide hbk2
          clear hbk2
          go_frame
          refine wpAnyH_tk 14 (v := .int .i64 0) rfl (by kernel_rfl) (by kernel_rfl) (by kernel_rfl) (yi rfl fun w' hw' => gives_move (.inr rfl) rfl) hS3 ?_
          go_frame
          refine wpAnyH_done (by kernel_rfl) (noPanic_mk ?_) _
          go_wp2_with fail
          go_meet
          exact ⟨bG, G, gn, gc, rfl, rfl, BG.out, SG.out, hS3⟩
        · have hS4 : Below w1.heap.size w1 (w1.drew.alloc (.cells #[.int .i64 0, .slice none 0 0] 50)) := hS0.alloc hS0.size _
          have hb : Below w1.drew.heap.size w1.drew (w1.drew.alloc (.cells #[.int .i64 0, .slice none 0 0] 50)) := (Below.refl _ _).alloc (Nat.le_refl _) _
          have g_bG : w1.heap.size ≤ w1.drew.heap.size := hS0.size
          have BG := hide (Blk.new w1.drew 50 #[.int .i64 0, .slice none 0 0])
          refine wp_alloc (z := .agg #[.int .i64 0, .slice none 0 0]) (cs := #[.int .i64 0, .slice none 0 0]) rfl (by kernel_rfl) rfl ⟨hS4, ?_⟩
          obtain ⟨bG, hq⟩ : ∃ q, w1.drew.heap.size = q := ⟨_, rfl⟩
          rw [hq] at BG g_bG  ⊢
          obtain ⟨u4, hw⟩ : ∃ x, w1.drew.alloc (.cells #[.int .i64 0, .slice none 0 0] 50) = x := ⟨_, rfl⟩
          rw [hw] at hS4 BG ⊢
          clear hb hw hq
          go_frame
          refine wpAnyH_1 8 rfl (by kernel_rfl) ?_
          refine wp_call [PV (LP.canon x).1 P pn pc, PV (LP.canon y).1 T tn tc] rfl rfl eAlMul rfl ((HMK.out u4 P pn pc T tn tc (SP.out.below hS4) (ST.out.below hS4)).mono ?_)
          rintro e u5 ⟨G, gn, gc, rfl, hs, hN, hb⟩
          dsimp only at hs ⊢
          have hS5 : Below w1.heap.size w1 u5 := hS4.trans (hb.mono hS4.size)
          have ne_bG : 0 < gn → ∀ ad, G = some ad → ad.block ≠ bG := fun h ad e => by have := hN h ad e; have := BG.out.lt; omega
          replace BG := hide (BG.out.below hb BG.out.lt)
          have SG := hide hs
          clear hb hs
          refine ⟨_, rfl, hS5, ?_⟩
          go_frame
          refine wpAnyH_tk 9 (v := .tuple #[PV (LP.canon xy).1 G gn gc, .int .i64 0]) rfl (by kernel_rfl) (by kernel_rfl) (by kernel_rfl) (yi rfl fun w' hw' => gives_move (.inl rfl) rfl) hS5 ?_
          go_frame
          refine wpAnyH_tk 10 (v := PV (LP.canon xy).1 G gn gc) rfl (by kernel_rfl) (by kernel_rfl) (by kernel_rfl) (yi rfl fun w' hw' => gives_extract rfl rfl rfl) hS5 ?_
          go_frame
          refine wpAnyH_tk 11 (v := .int .i64 0) rfl (by kernel_rfl) (by kernel_rfl) (by kernel_rfl) (yi rfl fun w' hw' => gives_extract rfl rfl rfl) hS5 ?_
          go_frame
          refine wpAnyH_1 13 rfl (by kernel_rfl) ?_
          have hS6 : Below w1.heap.size w1 (u5.setRow bG #[.int .i64 (LP.canon xy).1, .slice G gn gc]) := Below.setRow_ hS5 g_bG _
          refine wp_storeRow rfl rfl rfl BG.out (by kernel_rfl) rfl (by kernel_rfl) ⟨hS6, ?_⟩
          replace SG := hide (SG.out.setRow_ ne_bG #[.int .i64 (LP.canon xy).1, .slice G gn gc])
          have hbk2 : Blk (u5.setRow bG #[.int .i64 (LP.canon xy).1, .slice G gn gc]) bG 50 #[.int .i64 (LP.canon xy).1, .slice G gn gc] := setRow_heap _ _ _ _ _ _ BG.out
          replace BG := hide hbk2
          clear hbk2
          go_frame
          refine wpAnyH_tk 14 (v := .int .i64 0) rfl (by kernel_rfl) (by kernel_rfl) (by kernel_rfl) (yi rfl fun w' hw' => gives_move (.inr rfl) rfl) hS6 ?_
          go_frame
          refine wpAnyH_done (by kernel_rfl) (noPanic_mk ?_) _
          go_wp2_with fail
          go_meet
          exact ⟨bG, G, gn, gc, rfl, rfl, BG.out, SG.out, hS6⟩
      case rest =>
        obtain ⟨bG, G, gn, gc, rfl, rfl, hbk, hsl, hb⟩ := hcut
        have l6 := K6.out.lt
        have l7 := K7.out.lt
        replace SR := hide (SR.out.below hb)
        replace K6 := hide (K6.out.below hb l6)
        replace K7 := hide (K7.out.below hb l7)
        replace HW := hide (HW.out.trans (hb.mono HW.out.size))
        have l62 := K6.out.lt
        have l72 := K7.out.lt
        have BG := hide hbk
        have SG := hide hsl
        clear hb hbk hsl BP SP ST Q2 Q3 Q4 HL2 HL3 HMK l6 l7 LP0 HJQ HKM h3
        have c0 := K7.out.cell 0
        have c1 := K7.out.cell 1
        have d0 := BG.out.cell 0
        have d1 := BG.out.cell 1
        simp at c0 c1 d0 d1
        go_wp2_with fail
        refine (HDK.out _ R rn rc G gn gc SR.out SG.out).mono ?_
        rintro e w3 ⟨R', rn', rc', rfl, hs, hnw, hb⟩
        dsimp only at hs ⊢
        have HN2 : Hid (0 < rn' → ∀ ad, R' = some ad → b6 < ad.block ∧ b7 < ad.block) := hide (fun h ad e => by have := hnw h ad e; omega)
        replace K6 := hide (K6.out.below hb l62)
        replace K7 := hide (K7.out.below hb l72)
        replace HW := hide (HW.out.trans (hb.mono HW.out.size))
        have f6 : 0 < rn' → ∀ ad, R' = some ad → ad.block ≠ b7 := fun h ad e => by have := HN2.out h ad e; omega
        have SR2 := hide ((hs.setCell f6 0 (.int .i64 (LP.canon (S (k + 1))).1)).setCell f6 1 (.slice R' rn' rc'))
        have K62 := hide ((K6.out.far (p := ⟨b7, 0, none⟩) h67 (.int .i64 (LP.canon (S (k + 1))).1)).far (p := ⟨b7, 1, none⟩) h67 (.slice R' rn' rc'))
        have K72 : Hid (Blk ((w3.setCell ⟨b7, 0, none⟩ (.int .i64 (LP.canon (S (k + 1))).1)).setCell ⟨b7, 1, none⟩ (.slice R' rn' rc')) b7 50 #[.int .i64 (LP.canon (S (k + 1))).1, .slice R' rn' rc']) := hide ((K7.out.set_ 0 (.int .i64 (LP.canon (S (k + 1))).1)).set_ 1 (.slice R' rn' rc'))
        have HW2 := hide ((HW.out.setCell (p := ⟨b7, 0, none⟩) HWB.out.2 (.int .i64 (LP.canon (S (k + 1))).1)).setCell (p := ⟨b7, 1, none⟩) HWB.out.2 (.slice R' rn' rc'))
        have e0 := K7.out.cell 0
        have e1 := K7.out.cell 1
        have g0 := K7.out.frozen 0
        have g1 := K7.out.frozen 1
        simp at e0 e1
        have l73 := K7.out.lt
        clear hs hnw hb c0 c1 d0 d1 BG SG SR HDK l62 l72 f6 K6 K7 HW HN
        go_wp2_with fail
        go_roundw
        case rel => exact ⟨k + 1, R', rn', rc', by go_num, by omega, K62, K72, SR2, HN2, HW2⟩
        case measure => simp [intOf]; omega
    · have hkn : k = n := by omega
      subst hkn
      have c0 := K7.out.cell 0
      have c1 := K7.out.cell 1
      have c2 := K6.out.cell 0
      have c3 := K6.out.cell 1
      have f2 := K6.out.frozen 0
      have f3 := K6.out.frozen 1
      simp at c0 c1 c2 c3
      have l6 := K6.out.lt
      have hf : 0 < rn → ∀ ad, R = some ad → ad.block ≠ b6 := fun h ad e => by have := HN.out h ad e; omega
      have HF := hide hf
      clear hf hk hlt
      go_wp2_with fail
      refine bodyPost_ret (results_poly rfl _ rfl ((K6.out.set_ 0 (.int .i64 (LP.canon (S k)).1)).set_ 1 (.slice R rn rc))) rfl ?_
      refine ⟨R, rn, rc, rfl, (SR.out.setCell HF.out 0 _).setCell HF.out 1 _, fun h ad e => by have := HN.out h ad e; have := HWB.out; omega, ?_⟩
      exact (HW.out.setCell (p := ⟨b6, 0, none⟩) HWB.out.1 _).setCell (p := ⟨b6, 1, none⟩) HWB.out.1 _
end Go.Proofs.YtndgffiihbdppaaDoor
