/- Several texts in one. -/
import Derived.Test.YtoaiblhlpdaeoaaBase1
import Derived.ProofKit
import Derived.SizedLaws
/- DEHORNOY: reducing handles ends. -/
namespace Go.Proofs.Ytoaiblhlpdaeoaa
set_option linter.unusedVariables false
set_option linter.unusedSimpArgs false
namespace Gar

theorem Dr.val {n : Nat} {b : M} (hb : In n b) : ∀ {w : List Int} {x y : M}, (∀ l ∈ w, okl n l) → Dr b x w y → pos n x * gp n w = pos n y
  | [], x, y, _, h => by rw [gp_one, G_mul_one, h.2]
  | l :: w, x, y, hw, ⟨h0, z, e, h⟩ => by
    have ih := Dr.val hb (fun k hk => hw k (by simp [hk])) h
    have hx := In_dv h0 hb
    have hz := In_dv h.start hb
    rw [gp_cons, ← ih, ← G_assoc]
    congr 1
    obtain ⟨i, hi, rfl | rfl⟩ := letter_of (hw l (by simp))
    · rw [e.pos, pos_mul hx (In_g hi), pos_g hi]
    · have e2 := e.neg
      rw [e2] at hx
      rw [e2, pos_mul (In_mul.1 hx).1 (In_g hi), pos_g hi, G_assoc, gp_pair, G_mul_one]
/-! ### ranks -/
def allW (n : Nat) : Nat → List (List Nat)
  | 0 => [[]]
  | k + 1 => [] :: (List.range n).flatMap fun i => (allW n k).map (i :: ·)
def allV (n k : Nat) : List M := (allW n k).map mk
/-- From x to y by a word with m, without -m and smaller letters. -/
def Bel (n m : Nat) (x y : M) : Prop := ∃ u, (∀ l ∈ u, okl n l) ∧ (∀ l ∈ u, m + 1 ≤ l.natAbs ∧ l ≠ -up m) ∧ up m ∈ u ∧ pos n x * gp n u = pos n y
/-- From x to y by a word of letters greater than m. -/
def Neu (n m : Nat) (x y : M) : Prop := ∃ u, (∀ l ∈ u, okl n l) ∧ (∀ l ∈ u, m + 2 ≤ l.natAbs) ∧ pos n x * gp n u = pos n y
theorem Bel.trans {n m : Nat} {x y z : M} (h : Bel n m x y) (k : Bel n m y z) : Bel n m x z := by
  obtain ⟨u, h1, h2, h3, h4⟩ := h
  obtain ⟨v, k1, k2, k3, k4⟩ := k
  refine ⟨u ++ v, fun l hl => (List.mem_append.1 hl).elim (h1 l) (k1 l), fun l hl => (List.mem_append.1 hl).elim (h2 l) (k2 l), List.mem_append.2 (.inl h3), ?_⟩
  rw [← gp_mul, ← G_assoc, h4, k4]
theorem Bel.neu {n m : Nat} {x y z : M} (h : Bel n m x y) (k : Neu n m y z) : Bel n m x z := by
  obtain ⟨u, h1, h2, h3, h4⟩ := h
  obtain ⟨v, k1, k2, k4⟩ := k
  refine ⟨u ++ v, fun l hl => (List.mem_append.1 hl).elim (h1 l) (k1 l), fun l hl => (List.mem_append.1 hl).elim (h2 l) (fun q => ?_), List.mem_append.2 (.inl h3), ?_⟩
  · have := k2 l q
    unfold up
    omega
  · rw [← gp_mul, ← G_assoc, h4, k4]
theorem iw_mem {w : List Int} {l : Int} : l ∈ iw w ↔ -l ∈ w := by
  unfold iw
  rw [List.mem_reverse, List.mem_map]
  constructor
  · rintro ⟨a, ha, rfl⟩
    rwa [Int.neg_neg]
  · intro h
    exact ⟨-l, h, Int.neg_neg l⟩
theorem Neu.symm {n m : Nat} {x y : M} (h : Neu n m x y) : Neu n m y x := by
  obtain ⟨u, h1, h2, h4⟩ := h
  refine ⟨iw u, fun l hl => ?_, fun l hl => ?_, ?_⟩
  · have := (h1 _ (iw_mem.1 hl)).neg
    rwa [Int.neg_neg] at this
  · have := h2 _ (iw_mem.1 hl)
    omega
  · rw [← h4, G_assoc, gp_iw, G_mul_one]
open Classical in
noncomputable def rk (n m : Nat) (b x : M) : Nat := (allV n (len b)).countP fun y => decide (Bel n m y x)
/-! ### the measure -/
open Classical in
noncomputable def nx (x : M) (l : Int) : M := if h : ∃ y, Edge x l y then Classical.choose h else x
theorem nx_eq {x y : M} {l : Int} (h : Edge x l y) : nx x l = y := by
  unfold nx
  rw [dif_pos ⟨y, h⟩]
  exact (Classical.choose_spec (⟨y, h⟩ : ∃ y, Edge x l y)).det h
def cont (q s : Int) (r R : Nat) : Nat := if q = 1 ∧ s = -1 then r + 1 else if q = -1 ∧ s = 1 then R - r + 1 else 0
noncomputable def ph (m : Nat) (ρ : M → Nat) (R : Nat) : Int → M → List Int → Nat
  | _, _, [] => 0
  | q, x, l :: w => if l = up m then cont q 1 (ρ x) R + ph m ρ R 1 (nx x l) w else if l = -up m then cont q (-1) (ρ x) R + ph m ρ R (-1) (nx x l) w else ph m ρ R q (nx x l) w
def lq (m : Nat) : Int → List Int → Int
  | q, [] => q
  | q, l :: w => if l = up m then lq m 1 w else if l = -up m then lq m (-1) w else lq m q w
section
variable {m R : Nat} {ρ : M → Nat} {b : M}
theorem ph_append : ∀ {u : List Int} {x z : M} (v : List Int) (q : Int), Dr b x u z → ph m ρ R q x (u ++ v) = ph m ρ R q x u + ph m ρ R (lq m q u) z v
  | [], x, z, v, q, h => by rw [← h.2]; show _ = 0 + _; rw [Nat.zero_add]; rfl
  | l :: u, x, z, v, q, ⟨_, y, e, h⟩ => by
    rw [List.cons_append, ph, ph, lq, nx_eq e]
    by_cases c1 : l = up m
    · rw [if_pos c1, if_pos c1, if_pos c1, ph_append v 1 h, Nat.add_assoc]
    rw [if_neg c1, if_neg c1, if_neg c1]
    by_cases c2 : l = -up m
    · rw [if_pos c2, if_pos c2, if_pos c2, ph_append v (-1) h, Nat.add_assoc]
    rw [if_neg c2, if_neg c2, if_neg c2, ph_append v q h]
/-- The ranks fit the drawing. -/
structure Fit (n m : Nat) (b : M) (ρ : M → Nat) (R : Nat) : Prop where
  up_ : ∀ {x y : M}, dv x b → dv y b → Edge x (up m) y → ρ x < ρ y
  dn : ∀ {x y : M}, dv x b → dv y b → Edge x (-up m) y → ρ y < ρ x
  ne : ∀ {x y : M} {l : Int}, dv x b → dv y b → okl n l → m + 2 ≤ l.natAbs → Edge x l y → ρ x = ρ y
  le : ∀ x, ρ x ≤ R
variable {n : Nat}
theorem neu_not {l : Int} (h : m + 2 ≤ l.natAbs) : l ≠ up m ∧ l ≠ -up m := by unfold up; omega
theorem Fit.neu (F : Fit n m b ρ R) : ∀ {u : List Int} {x z : M} (q : Int), (∀ l ∈ u, okl n l ∧ m + 2 ≤ l.natAbs) → Dr b x u z → ph m ρ R q x u = 0 ∧ lq m q u = q ∧ ρ x = ρ z
  | [], x, z, q, _, h => ⟨rfl, rfl, by rw [h.2]⟩
  | l :: u, x, z, q, hu, ⟨h0, y, e, h⟩ => by
    obtain ⟨k1, k2⟩ := hu l (by simp)
    obtain ⟨c1, c2⟩ := neu_not k2
    have ih := F.neu q (fun k hk => hu k (by simp [hk])) h
    rw [ph, lq, if_neg c1, if_neg c2, if_neg c1, if_neg c2, nx_eq e, F.ne h0 h.start k1 k2 e]
    exact ih
/-- What comes behind asks for the last sign once. -/
theorem Fit.behind (F : Fit n m b ρ R) : ∀ {u : List Int} {x z : M}, (∀ l ∈ u, okl n l ∧ m + 1 ≤ l.natAbs) → Dr b x u z → ∃ s T, ∀ q, ph m ρ R q x u = cont q s (ρ x) R + T
  | [], x, z, _, _ => ⟨0, 0, fun q => by unfold cont; rw [if_neg (by omega), if_neg (by omega)]; rfl⟩
  | l :: u, x, z, hu, ⟨h0, y, e, h⟩ => by
    by_cases c1 : l = up m
    · exact ⟨1, ph m ρ R 1 (nx x l) u, fun q => by rw [ph, if_pos c1]⟩
    by_cases c2 : l = -up m
    · exact ⟨-1, ph m ρ R (-1) (nx x l) u, fun q => by rw [ph, if_neg c1, if_pos c2]⟩
    obtain ⟨k1, k2⟩ := hu l (by simp)
    obtain ⟨s, T, hs⟩ := F.behind (fun k hk => hu k (by simp [hk])) h
    refine ⟨s, T, fun q => ?_⟩
    rw [ph, if_neg c1, if_neg c2, nx_eq e, hs q, F.ne h0 h.start k1 (by unfold up at c1 c2; omega) e]
/-- A word in which m has one sign. -/
theorem Fit.mono (F : Fit n m b ρ R) {d : Bool} : ∀ {u : List Int} {x z : M} (q : Int), (∀ l ∈ u, okl n l ∧ m + 1 ≤ l.natAbs ∧ l ≠ hlet (!d) m) → Dr b x u z →
    (ph m ρ R q x u = 0 ∧ lq m q u = q ∧ ρ x = ρ z) ∨ (ph m ρ R q x u = cont q (if d then 1 else -1) (ρ x) R ∧ lq m q u = if d then 1 else -1)
  | [], x, z, q, _, h => .inl ⟨rfl, rfl, by rw [h.2]⟩
  | l :: u, x, z, q, hu, ⟨h0, y, e, h⟩ => by
    obtain ⟨k1, k2, k3⟩ := hu l (by simp)
    have zero : ∀ s r, cont s s r R = 0 := fun s r => by unfold cont; rw [if_neg (by omega), if_neg (by omega)]
    by_cases c : l = hlet d m
    · right
      have ih := F.mono (if d then 1 else -1) (fun k hk => hu k (by simp [hk])) h
      cases d with
      | true =>
        have c : l = up m := c
        rw [ph, lq, if_pos c, if_pos c, nx_eq e]
        rcases ih with ⟨i1, i2, _⟩ | ⟨i1, i2⟩
        · exact ⟨by show cont q 1 _ _ + _ = _; rw [show ph m ρ R 1 y u = 0 from i1]; rfl, i2⟩
        · exact ⟨by show cont q 1 _ _ + _ = _; rw [show ph m ρ R 1 y u = cont 1 1 _ _ from i1, zero]; rfl, i2⟩
      | false =>
        have c : l = -up m := c
        have c' : l ≠ up m := fun k => up_ne _ _ (k.symm.trans c)
        rw [ph, lq, if_neg c', if_pos c, if_neg c', if_pos c, nx_eq e]
        rcases ih with ⟨i1, i2, _⟩ | ⟨i1, i2⟩
        · exact ⟨by show cont q (-1) _ _ + _ = _; rw [show ph m ρ R (-1) y u = 0 from i1]; rfl, i2⟩
        · exact ⟨by show cont q (-1) _ _ + _ = _; rw [show ph m ρ R (-1) y u = cont (-1) (-1) _ _ from i1, zero]; rfl, i2⟩
    · have c1 : l ≠ up m ∧ l ≠ -up m := by
        cases d with
        | true => exact ⟨c, k3⟩
        | false => exact ⟨k3, c⟩
      have k4 : m + 2 ≤ l.natAbs := by obtain ⟨a, b⟩ := c1; unfold up at a b; omega
      have ih := F.mono q (fun k hk => hu k (by simp [hk])) h
      rw [ph, lq, if_neg c1.1, if_neg c1.2, if_neg c1.1, if_neg c1.2, nx_eq e, F.ne h0 h.start k1 k4 e]
      exact ih
end
end Gar
end Go.Proofs.Ytoaiblhlpdaeoaa
/- DEHORNOY: reducing handles ends; ARTIN: a word that acts as the identity on the free group is a trivial braid. -/
namespace Go.Proofs.Ytoaiblhlpdaeoaa
set_option linter.unusedVariables false
set_option linter.unusedSimpArgs false
namespace Gar

/-- One handle is reduced. -/
inductive HS (i : Nat) : List Int → List Int → Prop
  | mk (A B v : List Int) (e : Bool) (hv : InsOk i v) : HS i (A ++ (hlet e i :: (v ++ [hlet (!e) i]) ++ B)) (A ++ (v.flatMap (hsub e i) ++ B))
theorem HS.dr {i : Nat} {w w' : List Int} {b x y : M} (h : HS i w w') (d : Dr b x w y) : Dr b x w' y := by
  cases h with
  | mk A B v e hv =>
    obtain ⟨z, d1, d2⟩ := Dr.app.1 d
    obtain ⟨t, d3, d4⟩ := Dr.app.1 d2
    exact Dr.app.2 ⟨z, d1, Dr.app.2 ⟨t, Dr.handle hv d3, d4⟩⟩
/-- Letters on n strands, none smaller than m. -/
def Lo (n m : Nat) (w : List Int) : Prop := ∀ l ∈ w, okl n l ∧ m + 1 ≤ l.natAbs
theorem Lo.app {n m : Nat} {u v : List Int} : Lo n m (u ++ v) ↔ Lo n m u ∧ Lo n m v := by
  unfold Lo
  constructor
  · intro h
    exact ⟨fun l hl => h l (List.mem_append.2 (.inl hl)), fun l hl => h l (List.mem_append.2 (.inr hl))⟩
  · rintro ⟨h1, h2⟩ l hl
    exact (List.mem_append.1 hl).elim (h1 l) (h2 l)
theorem Lo.cons {n m : Nat} {l : Int} {v : List Int} : Lo n m (l :: v) ↔ (okl n l ∧ m + 1 ≤ l.natAbs) ∧ Lo n m v := by
  unfold Lo
  simp only [List.mem_cons]
  constructor
  · intro h
    exact ⟨h l (.inl rfl), fun k hk => h k (.inr hk)⟩
  · rintro ⟨h1, h2⟩ k (rfl | hk)
    · exact h1
    · exact h2 k hk
theorem Lo.sub {n m i : Nat} (e : Bool) (hi : m ≤ i) {v : List Int} (h : Lo n m v) : Lo n m (v.flatMap (hsub e i)) := fun l hl => by
  obtain ⟨k, hk, hl⟩ := List.mem_flatMap.1 hl
  have h1 := h k hk
  unfold hsub at hl
  by_cases c1 : k = up (i + 1)
  · rw [if_pos c1] at hl
    rw [c1] at h1
    unfold okl up at h1
    cases e <;> simp at hl <;> rcases hl with rfl | rfl | rfl <;> unfold okl up <;> omega
  rw [if_neg c1] at hl
  by_cases c2 : k = -up (i + 1)
  · rw [if_pos c2] at hl
    rw [c2] at h1
    unfold okl up at h1
    cases e <;> simp at hl <;> rcases hl with rfl | rfl | rfl <;> unfold okl up <;> omega
  rw [if_neg c2] at hl
  simp at hl
  rw [hl]
  exact h1
theorem hlet_abs (e : Bool) (i : Nat) : (hlet e i).natAbs = i + 1 := by cases e <;> (unfold hlet up; simp; try omega)
theorem HS.lo {n m i : Nat} {w w' : List Int} (h : HS i w w') (hw : Lo n m w) : Lo n m w' ∧ m ≤ i ∧ i + 1 < n := by
  cases h with
  | mk A B v e hv =>
    obtain ⟨h1, h2⟩ := Lo.app.1 hw
    rw [List.cons_append, Lo.cons] at h2
    obtain ⟨⟨h3, h4⟩, h5⟩ := h2
    obtain ⟨h6, h7⟩ := Lo.app.1 h5
    obtain ⟨h8, _⟩ := Lo.app.1 h6
    rw [hlet_abs] at h4
    have h9 := h3.2
    rw [hlet_abs] at h9
    exact ⟨Lo.app.2 ⟨h1, Lo.app.2 ⟨h8.sub e (by omega), h7⟩⟩, by omega, h9⟩
theorem Ins.ge {i : Nat} {l : Int} (h : Ins i l) : i + 2 ≤ l.natAbs := by
  cases h with
  | far k h => unfold up; omega
  | farn k h => unfold up; omega
  | p => unfold up; omega
  | n => unfold up; omega
section
variable {n m : Nat} {b : M} {ρ : M → Nat} {R : Nat}
theorem Lo.neu {u : List Int} (h : Lo n (m + 1) u) : ∀ l ∈ u, okl n l ∧ m + 2 ≤ l.natAbs := h
/-- The signs of m in what a handle of m becomes. -/
theorem sub_sign {e : Bool} {v : List Int} (hv : InsOk m v) : ∃ d : Bool, ∀ l ∈ v.flatMap (hsub e m), l ≠ hlet (!d) m := by
  obtain ⟨hI, hs⟩ := hv
  refine ⟨if up (m + 1) ∈ v then true else false, fun l hl => ?_⟩
  obtain ⟨k, hk, hl⟩ := List.mem_flatMap.1 hl
  have hg := (hI k hk).ge
  unfold hsub at hl
  by_cases c1 : k = up (m + 1)
  · rw [if_pos c1] at hl
    rw [if_pos (c1 ▸ hk)]
    cases e <;> simp at hl <;> rcases hl with rfl | rfl | rfl <;> unfold hlet up <;> simp <;> omega
  rw [if_neg c1] at hl
  by_cases c2 : k = -up (m + 1)
  · rw [if_pos c2] at hl
    have : up (m + 1) ∉ v := fun q => by
      rcases hs with hs | hs
      · exact hs q
      · exact hs (c2 ▸ hk)
    rw [if_neg this]
    cases e <;> simp at hl <;> rcases hl with rfl | rfl | rfl <;> unfold hlet up <;> simp <;> omega
  rw [if_neg c2] at hl
  simp at hl
  subst hl
  intro q
  have := congrArg Int.natAbs q
  rw [hlet_abs] at this
  omega
theorem cont_a (q : Int) (r R : Nat) : cont q (-1) r R ≤ r + 1 := by
  unfold cont
  rw [if_neg (c := q = -1 ∧ (-1 : Int) = 1) (by omega)]
  split <;> omega
theorem cont_b (s : Int) (r R : Nat) : cont 1 s r R ≤ r + 1 := by
  unfold cont
  rw [if_neg (c := (1 : Int) = -1 ∧ s = 1) (by omega)]
  split <;> omega
theorem cont_c (q : Int) (r R : Nat) : cont q 1 r R ≤ R - r + 1 := by
  unfold cont
  rw [if_neg (c := q = 1 ∧ (1 : Int) = -1) (by omega)]
  split <;> omega
theorem cont_d (s : Int) (r R : Nat) : cont (-1) s r R ≤ R - r + 1 := by
  unfold cont
  rw [if_neg (c := (-1 : Int) = 1 ∧ s = -1) (by omega)]
  split <;> omega
theorem cont_e (r R : Nat) : cont 1 (-1) r R = r + 1 := rfl
theorem cont_f (r R : Nat) : cont (-1) 1 r R = R - r + 1 := rfl
theorem cont_t {q s : Int} {r p R : Nat} (h : r < p) : cont q s r R < cont q 1 r R + (0 + (cont 1 (-1) p R + 0)) + cont (-1) s r R := by
  rw [cont_e]
  by_cases c : q = 1 ∧ s = -1
  · have : cont q s r R = r + 1 := by unfold cont; rw [if_pos c]
    omega
  by_cases c2 : q = -1 ∧ s = 1
  · obtain ⟨rfl, rfl⟩ := c2
    omega
  · have : cont q s r R = 0 := by unfold cont; rw [if_neg c, if_neg c2]
    omega
theorem cont_u {q s : Int} {r p R : Nat} (h : p < r) (hR : r ≤ R) : cont q s r R < cont q (-1) r R + (0 + (cont (-1) 1 p R + 0)) + cont 1 s r R := by
  rw [cont_f]
  by_cases c : q = 1 ∧ s = -1
  · obtain ⟨rfl, rfl⟩ := c
    omega
  by_cases c2 : q = -1 ∧ s = 1
  · have : cont q s r R = R - r + 1 := by unfold cont; rw [if_neg c, if_pos c2]
    omega
  · have : cont q s r R = 0 := by unfold cont; rw [if_neg c, if_neg c2]
    omega
theorem lq_app (m : Nat) : ∀ (u u' : List Int) (q : Int), lq m q (u ++ u') = lq m (lq m q u) u'
  | [], u', q => rfl
  | l :: u, u', q => by
    rw [List.cons_append, lq, lq]
    by_cases c1 : l = up m
    · rw [if_pos c1, if_pos c1, lq_app m u]
    rw [if_neg c1, if_neg c1]
    by_cases c2 : l = -up m
    · rw [if_pos c2, if_pos c2, lq_app m u]
    rw [if_neg c2, if_neg c2, lq_app m u]
/-- Reducing a handle of m makes the measure smaller. -/
theorem HS.less (F : Fit n m b ρ R) {w w' : List Int} {x y : M} (h : HS m w w') (hw : Lo n m w) (d : Dr b x w y) : ph m ρ R 0 x w' < ph m ρ R 0 x w := by
  have hlo := (h.lo hw).1
  cases h with
  | mk A B v e hv =>
    obtain ⟨z, d1, d2⟩ := Dr.app.1 d
    rw [ph_append _ _ d1, ph_append _ _ d1]
    generalize lq m 0 A = q
    obtain ⟨z', d3, d4⟩ := Dr.app.1 d2
    have d5 := Dr.handle hv d3
    rw [ph_append _ _ d3, ph_append _ _ d5]
    have hB : Lo n m B := (Lo.app.1 (Lo.app.1 hlo).2).2
    have hH : Lo n m (v.flatMap (hsub e m)) := (Lo.app.1 (Lo.app.1 hlo).2).1
    obtain ⟨s, T, hs⟩ := F.behind hB d4
    rw [hs, hs]
    -- the handle
    obtain ⟨k0, x1, e1, d6⟩ := d3
    obtain ⟨y1, d7, d8⟩ := Dr.app.1 d6
    obtain ⟨k1, z'', e2, k2, rfl⟩ := d8
    have hvn : ∀ l ∈ v, okl n l ∧ m + 2 ≤ l.natAbs := fun l hl => ⟨((Lo.app.1 hw).2 l (by simp [hl])).1, (hv.1 l hl).ge⟩
    have hn := fun q => F.neu q hvn d7
    obtain ⟨f, hf⟩ := sub_sign (e := e) hv
    have hmo := F.mono (d := f) q (fun l hl => ⟨(hH l hl).1, (hH l hl).2, hf l hl⟩) d5
    have l1 := F.le z
    have l2 := F.le z''
    have l3 := F.le y1
    cases e with
    | true =>
      have r1 := F.up_ k0 d7.start e1
      have r2 := F.dn k1 k2 e2
      rw [(hn 1).2.2] at r1
      have p1 : ph m ρ R q z (hlet true m :: (v ++ [hlet (!true) m])) = cont q 1 (ρ z) R + (0 + (cont 1 (-1) (ρ y1) R + 0)) := by
        show (if up m = up m then _ else _) = _
        rw [if_pos rfl, nx_eq e1, ph_append _ _ d7, (hn 1).1, (hn 1).2.1]
        show _ + (0 + (if -up m = up m then _ else if -up m = -up m then _ else _)) = _
        rw [if_neg (fun h => up_ne _ _ h.symm), if_pos rfl]
        rfl
      have p2 : lq m q (hlet true m :: (v ++ [hlet (!true) m])) = -1 := by
        show (if up m = up m then _ else _) = _
        rw [if_pos rfl, lq_app, (hn 1).2.1]
        show (if -up m = up m then _ else if -up m = -up m then _ else _) = _
        rw [if_neg (fun h => up_ne _ _ h.symm), if_pos rfl]
        rfl
      rw [p1, p2]
      rcases hmo with ⟨a1, a2, a3⟩ | ⟨a1, a2⟩
      · rw [a1, a2, a3]
        have := cont_t (q := q) (s := s) (R := R) r2
        omega
      · rw [a1, a2, cont_e]
        have u1 := cont_a q (ρ z) R
        have u2 := cont_b s (ρ z'') R
        cases f <;> simp only [if_true, if_false, Bool.false_eq_true] <;> omega
    | false =>
      have r1 := F.dn k0 d7.start e1
      have r2 := F.up_ k1 k2 e2
      rw [(hn (-1)).2.2] at r1
      have p1 : ph m ρ R q z (hlet false m :: (v ++ [hlet (!false) m])) = cont q (-1) (ρ z) R + (0 + (cont (-1) 1 (ρ y1) R + 0)) := by
        show (if -up m = up m then _ else (if -up m = -up m then _ else _)) = _
        rw [if_neg (fun h => up_ne _ _ h.symm), if_pos rfl, nx_eq e1, ph_append _ _ d7, (hn (-1)).1, (hn (-1)).2.1]
        show _ + (0 + (if up m = up m then _ else _)) = _
        rw [if_pos rfl]
        rfl
      have p2 : lq m q (hlet false m :: (v ++ [hlet (!false) m])) = 1 := by
        show (if -up m = up m then _ else (if -up m = -up m then _ else _)) = _
        rw [if_neg (fun h => up_ne _ _ h.symm), if_pos rfl, lq_app, (hn (-1)).2.1]
        show (if up m = up m then _ else _) = _
        rw [if_pos rfl]
        rfl
      rw [p1, p2]
      rcases hmo with ⟨a1, a2, a3⟩ | ⟨a1, a2⟩
      · rw [a1, a2, a3]
        have := cont_u (q := q) (s := s) r2 l2
        omega
      · rw [a1, a2, cont_f]
        have u1 := cont_c q (ρ z) R
        have u2 := cont_d s (ρ z'') R
        cases f <;> simp only [if_true, if_false, Bool.false_eq_true] <;> omega
/-- Reducing a handle of a greater letter leaves it. -/
theorem HS.same (F : Fit n m b ρ R) {i : Nat} (hi : m < i) {w w' : List Int} {x y : M} (h : HS i w w') (hw : Lo n m w) (d : Dr b x w y) : ph m ρ R 0 x w' = ph m ρ R 0 x w := by
  have hlo := (h.lo hw).1
  have hin := (h.lo hw).2.2
  cases h with
  | mk A B v e hv =>
    obtain ⟨z, d1, d2⟩ := Dr.app.1 d
    rw [ph_append _ _ d1, ph_append _ _ d1]
    generalize lq m 0 A = q
    obtain ⟨z', d3, d4⟩ := Dr.app.1 d2
    have d5 := Dr.handle hv d3
    rw [ph_append _ _ d3, ph_append _ _ d5]
    have g1 : ∀ l ∈ hlet e i :: (v ++ [hlet (!e) i]), okl n l ∧ m + 2 ≤ l.natAbs := fun l hl => by
      refine ⟨((Lo.app.1 hw).2 l (by rw [List.cons_append] at *; simp at hl ⊢; grind)).1, ?_⟩
      simp at hl
      rcases hl with rfl | hl | rfl
      · rw [hlet_abs]; omega
      · have := (hv.1 l hl).ge; omega
      · rw [hlet_abs]; omega
    have g2 : Lo n (m + 1) v := fun l hl => g1 l (by simp [hl])
    have g3 := g2.sub e (by omega : m + 1 ≤ i)
    have a := F.neu q g1 d3
    have c := F.neu q g3 d5
    rw [a.1, a.2.1, c.1, c.2.1]
end
end Gar
end Go.Proofs.Ytoaiblhlpdaeoaa
/- DEHORNOY: reducing handles ends for each word; what is left has one sign. ARTIN: the representation is faithful. -/
namespace Go.Proofs.Ytoaiblhlpdaeoaa
set_option linter.unusedVariables false
set_option linter.unusedSimpArgs false
namespace Gar

/-! ### each word is drawn somewhere -/
theorem draw_from {n C : Nat} : ∀ (w : List Int) (a c_ : Nat) (x x' z : M), (∀ l ∈ w, okl n l) → In n x' → In n z → x = pw (full n) a * x' → x * z = pw (full n) c_ → w.length ≤ a → c_ + w.length ≤ C → ∃ y, Dr (pw (full n) C) x w y
  | [], a, c_, x, x', z, _, h1, h2, e1, e2, _, hC => by
    refine ⟨x, ⟨z * pw (full n) (C - c_), ?_⟩, rfl⟩
    rw [← mul_assoc, e2, ← pw_add]
    congr 1
    simp at hC
    omega
  | l :: w, a, c_, x, x', z, hw, h1, h2, e1, e2, ha, hC => by
    simp only [List.length_cons] at ha hC
    have hdv : dv x (pw (full n) C) := ⟨z * pw (full n) (C - c_), by
      rw [← mul_assoc, e2, ← pw_add]
      congr 1
      omega⟩
    have hx : In n x := In_dv hdv (In_pw C)
    obtain ⟨a', rfl⟩ : ∃ a', a = a' + 1 := ⟨a - 1, by omega⟩
    have hfx : ∀ t : M, In n t → full n * t = t * full n := fun t ht => (full_comm ht).symm
    obtain ⟨i, hi, rfl | rfl⟩ := letter_of (hw l (by simp))
    · obtain ⟨hz, z1, z2⟩ := zeta_spec hi
      obtain ⟨y, hy⟩ := draw_from (C := C) w a' (c_ + 1) (x * g i) (full n * (x' * g i)) (zeta n i * z) (fun k hk => hw k (by simp [hk])) (In_mul.2 ⟨In_full n, In_mul.2 ⟨h1, In_g hi⟩⟩) (In_mul.2 ⟨hz, h2⟩)
        (by rw [e1, pw, ← mul_assoc (pw (full n) a'), pw_comm (In_full n) a' |>.symm, mul_assoc, mul_assoc])
        (by
          rw [mul_assoc, ← mul_assoc (g i), ← c_g, ← z1, ← mul_assoc, full_comm hx, mul_assoc, e2, pw])
        (by omega) (by omega)
      exact ⟨y, hdv, x * g i, .p _ _, hy⟩
    · obtain ⟨hz, z1, z2⟩ := zeta_spec hi
      have e3 : x = pw (full n) a' * (x' * zeta n i) * g i := by
        rw [e1, pw, pw_comm (In_full n) a', mul_assoc, hfx x' h1, z2, mul_assoc, mul_assoc]
      obtain ⟨y, hy⟩ := draw_from (C := C) w a' (c_ + 1) (pw (full n) a' * (x' * zeta n i)) (x' * zeta n i) (g i * (z * full n)) (fun k hk => hw k (by simp [hk])) (In_mul.2 ⟨h1, hz⟩) (In_mul.2 ⟨In_g hi, In_mul.2 ⟨h2, In_full n⟩⟩) rfl
        (by rw [← mul_assoc, ← e3, ← mul_assoc, e2, pw, pw_comm (In_full n)])
        (by omega) (by omega)
      refine ⟨y, hdv, _, ?_, hy⟩
      rw [e3]
      exact .n _ _
theorem drawn {n : Nat} {w : List Int} (hw : ∀ l ∈ w, okl n l) : ∃ b x y, In n b ∧ Dr b x w y := by
  obtain ⟨y, hy⟩ := draw_from (C := w.length + w.length) w w.length w.length (pw (full n) w.length) 1 1 hw (In_one n) (In_one n) (mul_one _).symm (mul_one _) (Nat.le_refl _) (Nat.le_refl _)
  exact ⟨_, _, y, In_pw _, hy⟩
theorem HS.val {n i : Nat} {w w' : List Int} (h : HS i w w') (hw : Lo n 0 w) : gp n w' = gp n w := by
  obtain ⟨b, x, y, hb, d⟩ := drawn fun l hl => (hw l hl).1
  have h1 := Dr.val hb (fun l hl => (hw l hl).1) d
  have h2 := Dr.val hb (fun l hl => ((h.lo hw).1 l hl).1) (h.dr d)
  exact G_cancel (h2.trans h1.symm)

/-! ### it ends -/
theorem hdl_ge {i : Nat} {e : Bool} {v : List Int} (hv : InsOk i v) : ∀ l ∈ hlet e i :: (v ++ [hlet (!e) i]), i + 1 ≤ l.natAbs := fun l hl => by
  simp at hl
  rcases hl with rfl | hl | rfl
  · rw [hlet_abs]; omega
  · have := (hv.1 l hl).ge; omega
  · rw [hlet_abs]; omega
theorem HS.split {i : Nat} {w w' u t : List Int} {s : Int} (h : HS i w w') (e : w = u ++ s :: t) (hs : s.natAbs ≤ i) : (∃ u', HS i u u' ∧ w' = u' ++ s :: t) ∨ ∃ t', HS i t t' ∧ w' = u ++ s :: t' := by
  cases h with
  | mk A B v f hv =>
    have hg := hdl_ge (e := f) hv
    have hne : hlet f i :: (v ++ [hlet (!f) i]) ≠ [] := by simp
    have hsub : ∀ A B : List Int, HS i (A ++ ((hlet f i :: (v ++ [hlet (!f) i])) ++ B)) (A ++ (v.flatMap (hsub f i) ++ B)) := fun A B => HS.mk A B v f hv
    generalize hlet f i :: (v ++ [hlet (!f) i]) = H at *
    generalize v.flatMap (Gar.hsub f i) = H' at *
    rcases List.append_eq_append_iff.1 e with ⟨a', h1, h2⟩ | ⟨c', h1, h2⟩
    · rcases List.append_eq_append_iff.1 h2 with ⟨d, q1, q2⟩ | ⟨d, q1, q2⟩
      · left
        refine ⟨A ++ (H' ++ d), ?_, ?_⟩
        · rw [h1, q1]; exact hsub A d
        · rw [q2]; simp
      · cases d with
        | nil =>
          left
          rw [List.append_nil] at q1
          rw [List.nil_append] at q2
          refine ⟨A ++ (H' ++ []), ?_, ?_⟩
          · rw [h1, ← q1]
            have := hsub A []
            rwa [List.append_nil] at this
          · rw [← q2]; simp
        | cons k d =>
          exfalso
          injection q2 with q2 q3
          have := hg k (by rw [q1]; simp)
          rw [← q2] at this
          omega
    · cases c' with
      | nil =>
        rw [List.nil_append] at h2
        cases H with
        | nil => exact absurd rfl hne
        | cons k H =>
          exfalso
          injection h2 with h2 _
          have := hg k (by simp)
          rw [← h2] at this
          omega
      | cons k c' =>
        injection h2 with h2 h3
        right
        refine ⟨c' ++ (H' ++ B), ?_, ?_⟩
        · rw [h3]; exact hsub c' B
        · rw [h1, h2]; simp
/-! ### words without handles -/
def NoH (w : List Int) : Prop := ∀ i w', ¬ HS i w w'
theorem HS.ctx {i : Nat} {w w' : List Int} (h : HS i w w') (p q : List Int) : HS i (p ++ (w ++ q)) (p ++ (w' ++ q)) := by
  cases h with
  | mk A B v e hv =>
    have := HS.mk (p ++ A) (B ++ q) v e hv
    simpa using this
theorem both_pair {m : Nat} : ∀ {v : List Int}, up m ∈ v → -up m ∈ v → ∃ e A mid B, v = A ++ (hlet e m :: (mid ++ [hlet (!e) m]) ++ B) ∧ up m ∉ mid ∧ -up m ∉ mid
  | [], h, _ => by cases h
  | l :: v, h1, h2 => by
    by_cases hb : up m ∈ v ∧ -up m ∈ v
    · obtain ⟨e, A, mid, B, e1, e2⟩ := both_pair hb.1 hb.2
      exact ⟨e, l :: A, mid, B, by rw [e1]; rfl, e2⟩
    · have key : ∃ e, l = hlet e m ∧ hlet (!e) m ∈ v ∧ hlet e m ∉ v := by
        by_cases c : up m ∈ v
        · have c2 : -up m ∉ v := fun k => hb ⟨c, k⟩
          refine ⟨false, ?_, c, c2⟩
          rcases List.mem_cons.1 h2 with h | h
          · exact h.symm
          · exact absurd h c2
        · refine ⟨true, ?_, ?_, c⟩
          · rcases List.mem_cons.1 h1 with h | h
            · exact h.symm
            · exact absurd h c
          · rcases List.mem_cons.1 h2 with h | h
            · rcases List.mem_cons.1 h1 with k | k
              · exact absurd (k.trans h.symm) (up_ne _ _)
              · exact absurd k c
            · exact h
      obtain ⟨e, rfl, k1, k2⟩ := key
      obtain ⟨mid, B, rfl, k3⟩ := List.eq_append_cons_of_mem k1
      have k4 : hlet e m ∉ mid := fun k => k2 (List.mem_append.2 (.inl k))
      refine ⟨e, [], mid, B, by simp, ?_⟩
      cases e with
      | true => exact ⟨k4, k3⟩
      | false => exact ⟨k3, k4⟩
theorem ins_of {m : Nat} {l : Int} (h : m + 2 ≤ l.natAbs) : Ins m l := by
  by_cases c : l.natAbs = m + 2
  · rcases Int.natAbs_eq l with e | e
    · have : l = up (m + 1) := by unfold up; omega
      rw [this]; exact .p
    · have : l = -up (m + 1) := by unfold up; omega
      rw [this]; exact .n
  · rcases Int.natAbs_eq l with e | e
    · have : l = up (l.natAbs - 1) := by unfold up; omega
      rw [this]; exact .far _ (by omega)
    · have : l = -up (l.natAbs - 1) := by unfold up; omega
      rw [this]; exact .farn _ (by omega)
/-- A word with both signs of its smallest letter has a handle. -/
theorem has_handle {n : Nat} : ∀ (k m : Nat) {v : List Int}, n ≤ m + k → Lo n m v → up m ∈ v → -up m ∈ v → ∃ i v', HS i v v'
  | 0, m, v, hk, hv, h1, _ => by
    have := (hv _ h1).1.2
    unfold up at this
    omega
  | k + 1, m, v, hk, hv, h1, h2 => by
    obtain ⟨e, A, mid, B, rfl, k1, k2⟩ := both_pair h1 h2
    have hmid : Lo n (m + 1) mid := fun l hl => by
      have h3 := hv l (by simp [hl])
      have h4 : l ≠ up m := fun q => k1 (q ▸ hl)
      have h5 : l ≠ -up m := fun q => k2 (q ▸ hl)
      unfold up at h4 h5
      exact ⟨h3.1, by omega⟩
    by_cases c : up (m + 1) ∈ mid ∧ -up (m + 1) ∈ mid
    · obtain ⟨i, v', h⟩ := has_handle k (m + 1) (by omega) hmid c.1 c.2
      have := h.ctx (A ++ [hlet e m]) ([hlet (!e) m] ++ B)
      have e2 : A ++ (hlet e m :: (mid ++ [hlet (!e) m]) ++ B) = A ++ [hlet e m] ++ (mid ++ ([hlet (!e) m] ++ B)) := by simp
      rw [e2]
      exact ⟨i, _, this⟩
    · refine ⟨m, _, HS.mk A B mid e ⟨fun l hl => ins_of (hmid l hl).2, ?_⟩⟩
      by_cases q : up (m + 1) ∈ mid
      · exact .inr fun q2 => c ⟨q, q2⟩
      · exact .inl q
theorem least {n : Nat} : ∀ (k m : Nat) {v : List Int}, n ≤ m + k → Lo n m v → v ≠ [] → ∃ m', Lo n m' v ∧ ∃ l ∈ v, l.natAbs = m' + 1
  | 0, m, [], _, _, h => absurd rfl h
  | 0, m, l :: v, hk, hv, _ => by
    have := hv l (by simp)
    unfold okl at this
    omega
  | k + 1, m, v, hk, hv, h => by
    by_cases c : ∃ l ∈ v, l.natAbs = m + 1
    · exact ⟨m, hv, c⟩
    · refine least k (m + 1) (by omega) (fun l hl => ⟨(hv l hl).1, ?_⟩) h
      have h1 := (hv l hl).2
      have h2 : l.natAbs ≠ m + 1 := fun e => c ⟨l, hl, e⟩
      omega
/-- A word without handles has one sign of its smallest letter. -/
theorem NoH.sign {n : Nat} {v : List Int} (h : NoH v) (hv : Lo n 0 v) (hne : v ≠ []) : ∃ m d, Lo n m v ∧ hlet d m ∈ v ∧ hlet (!d) m ∉ v := by
  obtain ⟨m, hm, l, hl, e⟩ := least n 0 (by omega) hv hne
  have hb : ¬ (up m ∈ v ∧ -up m ∈ v) := fun ⟨a, b⟩ => by
    obtain ⟨i, v', q⟩ := has_handle n m (by omega) hm a b
    exact h i v' q
  rcases Int.natAbs_eq l with q | q
  · have : l = up m := by unfold up; omega
    subst this
    exact ⟨m, true, hm, hl, fun k => hb ⟨hl, k⟩⟩
  · have : l = -up m := by unfold up; omega
    subst this
    exact ⟨m, false, hm, hl, fun k => hb ⟨k, hl⟩⟩
theorem Lo.iw {n m : Nat} {w : List Int} (h : Lo n m w) : Lo n m (Gar.iw w) := fun l hl => by
  have := h _ (iw_mem.1 hl)
  refine ⟨?_, by omega⟩
  have := this.1.neg
  rwa [Int.neg_neg] at this
theorem Lo.nz {n m : Nat} {w : List Int} (h : Lo n m w) : Proofs.Ytoaiblhlpdaeoaa.nz w := fun z hz => (h z hz).1.1
theorem Lo.okl {n m : Nat} {w : List Int} (h : Lo n m w) : ∀ x ∈ w, Gar.okl n x := fun x hx => (h x hx).1
end Gar
end Go.Proofs.Ytoaiblhlpdaeoaa
/- Plain mathematics: the sign by cycles is the sign by inversions. -/
namespace Go.Proofs.Ytoaiblhlpdaeoaa
set_option linter.unusedVariables false
set_option linter.unusedSimpArgs false

/-- 1, or -1 for an odd number of lengths that are even. -/
def sgnL (xss : List (List Nat)) : Int := xss.foldl (fun s c => if c.length % 2 = 0 then -s else s) 1
theorem foldl_sgn : ∀ (xss : List (List Nat)) (s : Int), (∀ c ∈ xss, 1 ≤ c.length) → xss.foldl (fun s c => if c.length % 2 = 0 then -s else s) s = s * sg ((xss.map fun c => c.length - 1).sum)
  | [], s, _ => by simp [sg]
  | c :: r, s, h => by
    have hc := h c (by simp)
    rw [List.foldl_cons, foldl_sgn r _ (fun d hd => h d (by simp [hd])), List.map_cons, List.sum_cons, sg_add]
    by_cases he : c.length % 2 = 0
    · have : sg (c.length - 1) = -1 := by unfold sg; rw [if_neg (by omega)]
      rw [if_pos he, this]
      simp [Int.neg_mul, Int.mul_neg]
    · have : sg (c.length - 1) = 1 := by unfold sg; rw [if_pos (by omega)]
      rw [if_neg he, this, Int.one_mul]

theorem cyc_nodup {a : List Nat} (h : isP a) {s : Nat} (hs : s < a.length) : (cyc a s).Nodup := by
  obtain ⟨h1, _, h3, h4⟩ := per_spec h hs
  unfold cyc
  rw [List.nodup_iff_pairwise_ne, List.pairwise_map]
  refine List.Pairwise.imp_of_mem ?_ (List.pairwise_lt_range (n := perOf a s))
  intro i j hi hj hij e
  simp at hi hj
  refine h4 (j - i) (by omega) (by omega) (it_back h hs (t := i) ?_)
  rw [show i + (j - i) = j from by omega]
  exact e.symm
theorem min_unique {a : List Nat} (h : isP a) {i j x : Nat} (hi : i < a.length) (hj : j < a.length) (mi : isMin a i = true) (mj : isMin a j = true) (hx : x ∈ cyc a i) (hy : x ∈ cyc a j) : i = j := by
  unfold isMin at mi mj
  rw [decide_eq_true_iff] at mi mj
  have h1 : j ∈ cyc a i := cyc_trans h hi hx (cyc_symm h hj hy)
  have h2 : i ∈ cyc a j := cyc_trans h hj hy (cyc_symm h hi hx)
  have := mi j h1
  have := mj i h2
  omega
theorem nodup_filter (p : Nat → Bool) {l : List Nat} (h : l.Nodup) : (l.filter p).Nodup :=
  List.nodup_iff_pairwise_ne.2 (List.Pairwise.filter _ (List.nodup_iff_pairwise_ne.1 h))
theorem length_filter_not (p : Nat → Bool) : ∀ (l : List Nat), l.length = (l.filter p).length + (l.filter fun x => !p x).length
  | [] => rfl
  | x :: r => by
    have ih := length_filter_not p r
    cases hp : p x
    · rw [List.filter_cons_of_neg (by simp [hp]), List.filter_cons_of_pos (by simp [hp])]
      simp only [List.length_cons]
      omega
    · rw [List.filter_cons_of_pos hp, List.filter_cons_of_neg (by simp [hp])]
      simp only [List.length_cons]
      omega
/-- The cycles are a partition. -/
theorem cyc_partition {a : List Nat} (h : isP a) (q : Nat → Bool) (hq : ∀ s, s < a.length → ∀ x ∈ cyc a s, q x = q s) :
    (((List.range a.length).filter fun i => isMin a i && q i).flatMap (cyc a)).Perm ((List.range a.length).filter q) := by
  refine (List.perm_ext_iff_of_nodup ?_ (nodup_filter _ List.nodup_range)).2 fun x => ?_
  · rw [List.nodup_iff_pairwise_ne, List.pairwise_flatMap]
    constructor
    · intro i hi
      have hi' := List.mem_range.1 (List.mem_filter.1 hi).1
      exact (List.nodup_iff_pairwise_ne.1 (cyc_nodup h hi'))
    · refine List.Pairwise.imp_of_mem ?_ (List.nodup_iff_pairwise_ne.1 (nodup_filter (fun i => isMin a i && q i) (List.nodup_range (n := a.length))))
      intro i j hi hj hij x hx y hy e
      subst e
      have hi' := List.mem_filter.1 hi
      have hj' := List.mem_filter.1 hj
      simp at hi' hj'
      exact hij (min_unique h hi'.1 hj'.1 hi'.2.1 hj'.2.1 hx hy)
  · rw [List.mem_flatMap]
    simp only [List.mem_filter, List.mem_range, Bool.and_eq_true]
    constructor
    · rintro ⟨i, ⟨hi, _, hqi⟩, hx⟩
      exact ⟨cyc_lt h hi hx, by rw [hq i hi x hx]; exact hqi⟩
    · rintro ⟨hx, hqx⟩
      obtain ⟨m, hm, hmem, hmin⟩ := min_ex h hx
      refine ⟨m, ⟨hm, hmin, by rw [hq x hx m hmem]; exact hqx⟩, cyc_symm h hx hmem⟩

theorem sum_filter {f : Nat → Nat} {p q : Nat → Bool} : ∀ (l : List Nat), (∀ x ∈ l, p x = true → q x = false → f x = 0) → ((l.filter fun x => p x && q x).map f).sum = ((l.filter p).map f).sum
  | [], _ => rfl
  | x :: r, h => by
    have ih := sum_filter r (fun y hy => h y (by simp [hy]))
    by_cases hp : p x = true
    · by_cases hq : q x = true
      · rw [List.filter_cons_of_pos (by simp [hp, hq]), List.filter_cons_of_pos hp, List.map_cons, List.map_cons, List.sum_cons, List.sum_cons, ih]
      · rw [List.filter_cons_of_neg (by simp [hq]), List.filter_cons_of_pos hp, List.map_cons, List.sum_cons, ih, h x (by simp) hp (by simpa using hq), Nat.zero_add]
    · rw [List.filter_cons_of_neg (by simp [hp]), List.filter_cons_of_neg hp, ih]
theorem sum_pred {f : Nat → Nat} : ∀ (l : List Nat), (∀ x ∈ l, 1 ≤ f x) → (l.map fun x => f x - 1).sum + l.length = (l.map f).sum
  | [], _ => rfl
  | x :: r, h => by
    have ih := sum_pred r (fun y hy => h y (by simp [hy]))
    have := h x (by simp)
    simp only [List.map_cons, List.sum_cons, List.length_cons]
    omega
/-- How many elements are not the smallest of their cycles. -/
def nonMin (a : List Nat) : Nat := ((List.range a.length).filter fun i => !isMin a i).length
theorem sgn_nonMin {a : List Nat} (h : isP a) : sgnL (cycs a) = sg (nonMin a) := by
  unfold sgnL
  rw [foldl_sgn _ _ (fun c hc => by
    obtain ⟨i, hi, rfl⟩ := List.mem_map.1 hc
    rw [cyc_length]
    exact (per_spec h (List.mem_range.1 (List.mem_filter.1 hi).1)).1), Int.one_mul]
  congr 1
  unfold cycs cycsTo
  rw [List.map_map]
  have e1 : ((fun c : List Nat => c.length - 1) ∘ cyc a) = fun i => perOf a i - 1 := by
    funext i
    simp [cyc_length]
  rw [e1, sum_filter (p := isMin a) (q := fun i => decide (1 < perOf a i)) (f := fun i => perOf a i - 1) _ (fun x _ _ hq => by simp at hq; omega)]
  have h2 := sum_pred (f := perOf a) ((List.range a.length).filter (isMin a)) (fun x hx => (per_spec h (List.mem_range.1 (List.mem_filter.1 hx).1)).1)
  have h3 := (cyc_partition h (fun _ => true) (fun _ _ _ _ => rfl)).length_eq
  have e2 : ((List.range a.length).filter fun i => isMin a i && true) = (List.range a.length).filter (isMin a) := by
    congr 1
    funext i
    simp
  rw [e2, List.length_flatMap] at h3
  have e3 : ((List.range a.length).filter (isMin a)).map (fun i => (cyc a i).length) = ((List.range a.length).filter (isMin a)).map (perOf a) := by
    congr 1
    funext i
    exact cyc_length a i
  rw [e3] at h3
  have e4 : ((List.range a.length).filter fun _ => true) = List.range a.length := List.filter_eq_self.2 (fun _ _ => rfl)
  rw [e4, List.length_range] at h3
  have h5 : ((List.range a.length).filter (isMin a)).length + ((List.range a.length).filter fun i => !isMin a i).length = a.length := by
    have := length_filter_not (isMin a) (List.range a.length)
    rw [List.length_range] at this
    omega
  unfold nonMin
  omega

/-! One point less. -/
def red (a : List Nat) (n : Nat) : List Nat := (a.take n).map fun x => if x = n then a.getD n 0 else x
section
variable {a : List Nat} {n : Nat}
theorem red_length (hl : a.length = n + 1) : (red a n).length = n := by simp [red]; omega
theorem red_getD (hl : a.length = n + 1) {s : Nat} (hs : s < n) : (red a n).getD s 0 = if a.getD s 0 = n then a.getD n 0 else a.getD s 0 := by
  unfold red
  rw [getD_map_nat (by simp; omega)]
  have : (a.take n).getD s 0 = a.getD s 0 := by
    simp [List.getD, List.getElem?_take, hs]
  rw [this]
theorem red_isP (h : isP a) (hl : a.length = n + 1) : isP (red a n) := by
  have hlt : ∀ s, s < n → a.getD s 0 < n + 1 := fun s hs => by have := h.lt (j := s) (by omega); omega
  have hv := h.lt (j := n) (by omega)
  refine isP_of ?_ ?_
  · intro s hs
    rw [red_length hl] at hs ⊢
    rw [red_getD hl hs]
    by_cases e : a.getD s 0 = n
    · rw [if_pos e]
      have : a.getD n 0 ≠ n := fun e2 => by
        have := h.inj (i := s) (j := n) (by omega) (by omega) (by rw [e, e2])
        omega
      omega
    · rw [if_neg e]
      have := hlt s hs
      omega
  · intro i j hi hj he
    rw [red_length hl] at hi hj
    rw [red_getD hl hi, red_getD hl hj] at he
    by_cases ei : a.getD i 0 = n <;> by_cases ej : a.getD j 0 = n
    · exact h.inj (by omega) (by omega) (by rw [ei, ej])
    · rw [if_pos ei, if_neg ej] at he
      have := h.inj (i := n) (j := j) (by omega) (by omega) he
      omega
    · rw [if_neg ei, if_pos ej] at he
      have := h.inj (i := i) (j := n) (by omega) (by omega) he
      omega
    · rw [if_neg ei, if_neg ej] at he
      exact h.inj (by omega) (by omega) he
theorem cyc_next (h : isP a) {s y : Nat} (hs : s < a.length) (hy : y ∈ cyc a s) : a.getD y 0 ∈ cyc a s := by
  obtain ⟨t, rfl⟩ := (mem_cyc h hs).1 hy
  exact (mem_cyc h hs).2 ⟨t + 1, rfl⟩
theorem red_cyc (h : isP a) (hl : a.length = n + 1) {s x : Nat} (hs : s < n) (hx : x < n) : x ∈ cyc (red a n) s ↔ x ∈ cyc a s := by
  have hb := red_isP h hl
  have hbl := red_length hl
  constructor
  · intro hm
    obtain ⟨t, rfl⟩ := (mem_cyc hb (by omega)).1 hm
    clear hm hx
    induction t with
    | zero => exact cyc_self h (by omega)
    | succ t ih =>
      have hy := it_lt hb (s := s) (by omega) t
      rw [hbl] at hy
      have h1 := cyc_next h (by omega) ih
      rw [it, red_getD hl hy]
      split
      · rename_i e
        rw [e] at h1
        exact cyc_next h (by omega) h1
      · exact h1
  · intro hm
    obtain ⟨t, rfl⟩ := (mem_cyc h (by omega)).1 hm
    have key : ∀ t, (it a t s ≠ n → it a t s ∈ cyc (red a n) s) ∧ (it a t s = n → a.getD n 0 ≠ n ∧ a.getD n 0 ∈ cyc (red a n) s) := by
      intro t
      induction t with
      | zero => exact ⟨fun _ => cyc_self hb (by omega), fun e => by have : s = n := e; omega⟩
      | succ t ih =>
        by_cases e : it a t s = n
        · obtain ⟨h1, h2⟩ := ih.2 e
          have e2 : it a (t + 1) s = a.getD n 0 := by rw [it, e]
          rw [e2]
          exact ⟨fun _ => h2, fun e3 => absurd e3 h1⟩
        · have h1 := ih.1 e
          have hlt : it a t s < n := by have := it_lt h (s := s) (by omega) t; omega
          have h2 := cyc_next hb (by omega) h1
          rw [red_getD hl hlt] at h2
          have e2 : it a (t + 1) s = a.getD (it a t s) 0 := rfl
          rw [e2]
          constructor
          · intro e3
            rw [if_neg e3] at h2
            exact h2
          · intro e3
            rw [if_pos e3] at h2
            refine ⟨fun e4 => ?_, h2⟩
            have := h.inj (i := it a t s) (j := n) (by omega) (by omega) (by rw [e3, e4])
            exact e this
    exact (key t).1 (by omega)
theorem red_min (h : isP a) (hl : a.length = n + 1) {s : Nat} (hs : s < n) : isMin (red a n) s = isMin a s := by
  have hb := red_isP h hl
  have hbl := red_length hl
  unfold isMin
  rw [decide_eq_decide]
  constructor
  · intro hall x hx
    by_cases e : x < n
    · exact hall x ((red_cyc h hl hs e).2 hx)
    · omega
  · intro hall x hx
    have hxl := cyc_lt hb (s := s) (by omega) hx
    rw [hbl] at hxl
    exact hall x ((red_cyc h hl hs hxl).1 hx)
theorem last_min (h : isP a) (hl : a.length = n + 1) : isMin a n = decide (a.getD n 0 = n) := by
  unfold isMin
  rw [decide_eq_decide]
  constructor
  · intro hall
    have h1 := hall _ (cyc_next h (by omega) (cyc_self h (s := n) (by omega)))
    have h2 := h.lt (j := n) (by omega)
    omega
  · intro e x hx
    obtain ⟨t, rfl⟩ := (mem_cyc h (by omega)).1 hx
    have : ∀ t, it a t n = n := by
      intro t
      induction t with
      | zero => rfl
      | succ t ih => rw [it, ih, e]
    rw [this t]
    exact Nat.le_refl n
theorem red_nonMin (h : isP a) (hl : a.length = n + 1) : nonMin a = nonMin (red a n) + if a.getD n 0 = n then 0 else 1 := by
  unfold nonMin
  rw [hl, red_length hl, List.range_succ, List.filter_append, List.length_append]
  have e1 : ((List.range n).filter fun i => !isMin a i) = (List.range n).filter fun i => !isMin (red a n) i := by
    apply List.filter_congr
    intro s hs
    rw [red_min h hl (List.mem_range.1 hs)]
  rw [e1]
  congr 1
  have := last_min h hl
  by_cases e : a.getD n 0 = n
  · rw [if_pos e]
    rw [decide_eq_true e] at this
    simp [this]
  · rw [if_neg e]
    rw [decide_eq_false e] at this
    simp [this]

theorem invL_append : ∀ (l r : List Nat), invL (l ++ r) = invL l + invL r + (l.map (cntN r)).sum
  | [], r => by simp [invL]
  | x :: l, r => by
    rw [List.cons_append, invL, invL_append l r, cntN_append, invL, List.map_cons, List.sum_cons]
    omega
theorem cnt_split {l : List Nat} {v : Nat} : (∀ x ∈ l, x ≠ v) → l.length = cntN l v + cntG l v := by
  induction l with
  | nil => intro _; rfl
  | cons x r ih =>
    intro h
    have ih' := ih (fun y hy => h y (by simp [hy]))
    have hx := h x (by simp)
    have e : cntG (x :: r) v = cntG r v + if v < x then 1 else 0 := by
      unfold cntG
      rw [List.countP_cons]
      simp
    rw [List.length_cons, cntN_cons, e]
    rcases Nat.lt_or_gt_of_ne hx with h1 | h1
    · rw [if_pos h1, if_neg (by omega)]; omega
    · rw [if_neg (by omega), if_pos h1]; omega
theorem cnt_all {l : List Nat} {v : Nat} : (∀ x ∈ l, x < v) → cntN l v = l.length ∧ cntG l v = 0 := by
  induction l with
  | nil => intro _; exact ⟨rfl, rfl⟩
  | cons x r ih =>
    intro h
    obtain ⟨h1, h2⟩ := ih (fun y hy => h y (by simp [hy]))
    have hx := h x (by simp)
    have e : cntG (x :: r) v = cntG r v + if v < x then 1 else 0 := by
      unfold cntG
      rw [List.countP_cons]
      simp
    rw [cntN_cons, e, h1, h2, if_pos hx, if_neg (by omega)]
    exact ⟨rfl, rfl⟩
theorem red_inv (h : isP a) (hl : a.length = n + 1) : sg (invL a) = (if a.getD n 0 = n then 1 else -1) * sg (invL (red a n)) := by
  have hsplit : a = a.take n ++ [a.getD n 0] := by
    have := List.take_append_drop n a
    rw [List.drop_eq_getElem_cons (show n < a.length by omega), List.drop_eq_nil_of_le (by omega), ← getD_eq (by omega)] at this
    exact this.symm
  have hnd : (a.take n ++ [a.getD n 0]).Nodup := by rw [← hsplit]; exact h.2
  rw [List.nodup_append] at hnd
  have hlt : ∀ x ∈ a.take n, x < n + 1 := fun x hx => by have := h.1 x (List.mem_of_mem_take hx); omega
  have hne : ∀ x ∈ a.take n, x ≠ a.getD n 0 := fun x hx => hnd.2.2 x hx _ (by simp)
  generalize hT : a.take n = T at *
  generalize hv : a.getD n 0 = v at *
  have hvlt : v < n + 1 := by have := h.lt (j := n) (by omega); rw [hv] at this; omega
  have hred : red a n = T.map fun x => if x = n then v else x := by unfold red; rw [hT, hv]
  rw [hred, hsplit]
  by_cases e : v = n
  · subst e
    have hid : (T.map fun x => if x = v then v else x) = T := by
      conv => rhs; rw [← List.map_id T]
      apply List.map_congr_left
      intro x hx
      rw [if_neg (hne x hx)]
      rfl
    rw [if_pos rfl, hid, Int.one_mul, invL_snoc, (cnt_all (fun x hx => by have := hlt x hx; have := hne x hx; omega)).2, Nat.add_zero]
  · have hn : n ∈ a := h.mem (by omega)
    rw [hsplit, List.mem_append] at hn
    have hnT : n ∈ T := by
      rcases hn with h1 | h1
      · exact h1
      · simp at h1; exact absurd h1.symm e
    obtain ⟨l1, l2, rfl⟩ := List.append_of_mem hnT
    have hnd1 := hnd.1
    rw [List.nodup_append] at hnd1
    have hl1 : ∀ x ∈ l1, x ≠ n := fun x hx => hnd1.2.2 x hx n (by simp)
    have hl2 : ∀ x ∈ l2, x ≠ n := fun x hx e2 => by
      have := (List.nodup_cons.1 hnd1.2.1).1
      rw [e2] at hx
      exact this hx
    have hm1 : (l1.map fun x => if x = n then v else x) = l1 := by
      conv => rhs; rw [← List.map_id l1]
      apply List.map_congr_left
      intro x hx
      rw [if_neg (hl1 x hx)]; rfl
    have hm2 : (l2.map fun x => if x = n then v else x) = l2 := by
      conv => rhs; rw [← List.map_id l2]
      apply List.map_congr_left
      intro x hx
      rw [if_neg (hl2 x hx)]; rfl
    rw [if_neg e, List.map_append, List.map_cons, hm1, hm2, if_pos rfl, List.append_assoc, List.cons_append, invL_append, invL_append l1 (v :: l2), invL, invL, invL_snoc, cntN_append]
    have hc2 : cntN l2 n = l2.length := (cnt_all (fun x hx => by have := hlt x (by simp [hx]); have := hl2 x hx; omega)).1
    have hcv : cntN [v] n = 1 := by rw [cntN_cons, if_pos (by omega)]; rfl
    have hsp := cnt_split (l := l2) (v := v) (fun x hx => hne x (by simp [hx]))
    have hcross : l1.map (cntN (n :: (l2 ++ [v]))) = l1.map (cntN (v :: l2)) := by
      apply List.map_congr_left
      intro x hx
      have hxn : x < n := by have := hlt x (by simp [hx]); have := hl1 x hx; omega
      have e1 : cntN [v] x = if v < x then 1 else 0 := by rw [cntN_cons]; simp [cntN]
      rw [cntN_cons, cntN_append, e1, cntN_cons, if_neg (show ¬ n < x by omega)]
      omega
    rw [hcross, hc2, hcv]
    have e5 : invL l1 + (l2.length + 1 + (invL l2 + cntG l2 v)) + (l1.map (cntN (v :: l2))).sum = (invL l1 + (cntN l2 v + invL l2) + (l1.map (cntN (v :: l2))).sum) + (cntG l2 v + cntG l2 v) + 1 := by omega
    rw [e5, sg_succ, sg_add, sg_add (cntG l2 v), sg_sq, Int.mul_one, Int.neg_mul, Int.one_mul]
end

theorem sign_inv : ∀ (n : Nat) {a : List Nat}, isP a → a.length = n → sg (nonMin a) = sg (invL a)
  | 0, a, _, hl => by
    have : a = [] := List.eq_nil_of_length_eq_zero hl
    subst this
    rfl
  | n + 1, a, h, hl => by
    rw [red_inv h hl, ← sign_inv n (red_isP h hl) (red_length hl), red_nonMin h hl]
    by_cases e : a.getD n 0 = n
    · rw [if_pos e, if_pos e, Nat.add_zero, Int.one_mul]
    · rw [if_neg e, if_neg e, sg_succ, Int.neg_mul, Int.one_mul]
theorem sgn_comp {a b : List Nat} (pa : isP a) (pb : isP b) (hl : a.length = b.length) : sgnL (cycs (comp a b)) = sgnL (cycs a) * sgnL (cycs b) := by
  have pc := comp_isP pa pb hl
  rw [sgn_nonMin pa, sgn_nonMin pb, sgn_nonMin pc, sign_inv _ pa rfl, sign_inv _ pb rfl, sign_inv _ pc rfl, sg_comp pa pb hl]
end Go.Proofs.Ytoaiblhlpdaeoaa
/- A slice of integers that came in as an argument. -/
namespace Go.Proofs.Ytoaiblhlpdaeoaa
set_option linter.unusedVariables false
set_option linter.unusedSimpArgs false
open Go.RowKit

theorem IL.of_row {W : World} {a : Addr} {len cap : Nat} {zs : List Int} (hl : len ≤ cap) (hz : zs.length = cap) (hr : cap * 8 ≤ 140737488351232) (hcell : ∀ i, i < zs.length → W.cell? (a.add i) = some (.int .i64 (zs.getD i 0))) : IL W (some a) len (zs.take len) := by
  refine ⟨by rw [List.length_take]; omega, by omega, fun h0 => ⟨a, rfl, ?_, fun j hj => ?_⟩⟩
  · have := World.block_lt_of_cell? W _ (hcell 0 (by omega))
    rwa [block_of_add] at this
  · rw [hcell j (by omega)]
    simp [List.getD, List.getElem?_take, hj]
end Go.Proofs.Ytoaiblhlpdaeoaa
