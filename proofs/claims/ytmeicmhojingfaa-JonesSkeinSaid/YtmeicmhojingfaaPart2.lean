/- Several texts in one. -/
import Derived.Test.YtmeicmhojingfaaPart1
import Derived.Test.YtmeicmhojingfaaBase1
import Derived.DeepKeys4
/- Braid words: what is wrong with one, where its strands end. -/
namespace Go.Proofs.Ytmeicmhojingfaa
set_option linter.unusedVariables false
set_option linter.unusedSimpArgs false

def okX (n x : Int) : Bool := decide (x ≠ 0 ∧ x < n ∧ -n < x)
def bfault (n : Int) (w : List Int) : Int := if n < 1 ∨ 6 < n then 1 else if 30 < w.length then 2 else if w.all (okX n) then 0 else 3
theorem bfault_zero {n : Int} {w : List Int} (h : bfault n w = 0) : 1 ≤ n ∧ n ≤ 6 ∧ w.length ≤ 30 ∧ ∀ x ∈ w, x ≠ 0 ∧ x < n ∧ -n < x := by
  unfold bfault at h
  split at h
  · omega
  · next h1 =>
    split at h
    · omega
    · next h2 =>
      split at h
      · next h3 => exact ⟨by omega, by omega, by omega, fun x hx => by simpa [okX] using List.all_eq_true.1 h3 x hx⟩
      · omega
theorem bfault_ok {n : Int} {w : List Int} (h1 : 1 ≤ n) (h6 : n ≤ 6) (h : w.length ≤ 30) (hw : ∀ x ∈ w, x ≠ 0 ∧ x < n ∧ -n < x) : bfault n w = 0 := by
  unfold bfault
  rw [if_neg (by omega), if_neg (by omega), if_pos (List.all_eq_true.2 fun x hx => by simpa [okX] using hw x hx)]
/-- Where a strand goes at a letter. -/
def stepE (at_ : Nat) (x : Int) : Nat := if at_ + 1 = x.natAbs then at_ + 1 else if at_ = x.natAbs then at_ - 1 else at_
def endE (w : List Int) (s : Nat) : Nat := w.foldl stepE s
def endsL (n : Nat) (w : List Int) : List Nat := (List.range n).map (endE w)
theorem endsL_length (n : Nat) (w : List Int) : (endsL n w).length = n := by simp [endsL]
theorem stepE_lt {n at_ : Nat} {x : Int} (hx : x ≠ 0) (h1 : x.natAbs < n) (h : at_ < n) : stepE at_ x < n := by
  unfold stepE
  split
  · omega
  · split <;> omega
theorem endE_append (u v : List Int) (s : Nat) : endE (u ++ v) s = endE v (endE u s) := by unfold endE; rw [List.foldl_append]
theorem endE_snoc (w : List Int) (x : Int) (s : Nat) : endE (w ++ [x]) s = stepE (endE w s) x := by rw [endE_append]; rfl
/-- Words that act alike on all strands. -/
def RelE (a b : List Int) : Prop := ∀ s, endE a s = endE b s
theorem RelE.ends {a b : List Int} (h : RelE a b) (n : Nat) (u v : List Int) : endsL n (u ++ a ++ v) = endsL n (u ++ b ++ v) := by
  unfold endsL
  refine List.map_congr_left fun s _ => ?_
  rw [endE_append, endE_append, endE_append, endE_append, h]
theorem stepE_twice {x : Int} (h : x ≠ 0) (s : Nat) : stepE (stepE s x) x = s := by
  unfold stepE
  by_cases h1 : s + 1 = x.natAbs
  · rw [if_pos h1, if_neg (by omega), if_pos (by omega)]; omega
  · rw [if_neg h1]
    by_cases h2 : s = x.natAbs
    · rw [if_pos h2, if_pos (by omega)]; omega
    · rw [if_neg h2, if_neg h1, if_neg h2]
end Go.Proofs.Ytmeicmhojingfaa
/- The Artin representation: the product of all generators is fixed; images are conjugates of generators. -/
namespace Go.Proofs.Ytmeicmhojingfaa
set_option linter.unusedVariables false
set_option linter.unusedSimpArgs false

/-- The generators in their order. -/
def gens (n : Nat) : List Int := (List.range n).map fun (i : Nat) => ((i : Nat) : Int) + 1
end Go.Proofs.Ytmeicmhojingfaa
/- The bracket as a sum over choices: mirrored, backwards, JONES's relation, bounds (mathematics of stage 13). -/
namespace Go.Proofs.Ytmeicmhojingfaa
set_option linter.unusedVariables false
set_option linter.unusedSimpArgs false

def sgx (x : Int) : Int := if 0 < x then 1 else -1
theorem sgx_abs (x : Int) : (sgx x).natAbs = 1 := by unfold sgx; split <;> rfl
/-- The sum over all choices for the letters of a word. -/
noncomputable def tS (n : Nat) : (List (List Nat) → LP) → List Int → LP
  | F, [] => F []
  | F, x :: w => LP.term (sgx x) 1 * tS n (fun l => F (Tl.straight n :: l)) w + LP.term (-sgx x) 1 * tS n (fun l => F (Tl.hook n x.natAbs :: l)) w
/-- -A^2 - A^-2 to a power. -/
noncomputable def dlt : Nat → LP
  | 0 => 1
  | k + 1 => dlt k * (LP.term 2 (-1) + LP.term (-2) (-1))
def actS (n : Nat) (l : List (List Nat)) : List Nat × Nat := Tl.act n (Tl.straight n, 0) l
/-- The loops of a closed stack. -/
def lps (n : Nat) (l : List (List Nat)) : Nat := (actS n l).2 + Tl.cir n (actS n l).1
noncomputable def brk (n : Nat) (w : List Int) : LP := tS n (fun l => dlt (lps n l - 1)) w
/-- A choice for the letters of a word. -/
def Ch (n : Nat) : List Int → List (List Nat) → Prop
  | [], l => l = []
  | x :: w, l => ∃ g m, l = g :: m ∧ (g = Tl.straight n ∨ g = Tl.hook n x.natAbs) ∧ Ch n w m
theorem hook_gens {n i : Nat} (h0 : 1 ≤ i) (h1 : i < n) : Tl.hook n i ∈ Tl.gens n := by
  unfold Tl.gens
  exact List.mem_cons_of_mem _ (List.mem_map.2 ⟨i - 1, List.mem_range.2 (by omega), by rw [show i - 1 + 1 = i by omega]⟩)
theorem straight_gens (n : Nat) : Tl.straight n ∈ Tl.gens n := by unfold Tl.gens; simp
theorem Ch.wd {n : Nat} : ∀ {w : List Int} {l : List (List Nat)}, (∀ x ∈ w, x ≠ 0 ∧ x.natAbs < n) → Ch n w l → Tl.Wd n l
  | [], l, _, h => by
    have : l = [] := h
    subst this
    intro g hg
    cases hg
  | x :: w, l, hw, h => by
    obtain ⟨g, m, rfl, hg, hm⟩ := h
    intro y hy
    rcases List.mem_cons.1 hy with e | hy
    · subst e
      have hx := hw x (by simp)
      rcases hg with e | e <;> subst e
      · exact straight_gens n
      · exact hook_gens (by omega) hx.2
    · exact Ch.wd (fun z hz => hw z (by simp [hz])) hm y hy
theorem tS_congr {n : Nat} : ∀ {w : List Int} {F G : List (List Nat) → LP}, (∀ l, Ch n w l → F l = G l) → tS n F w = tS n G w
  | [], F, G, h => h [] rfl
  | x :: w, F, G, h => by
    show LP.term _ _ * tS n _ w + LP.term _ _ * tS n _ w = LP.term _ _ * tS n _ w + LP.term _ _ * tS n _ w
    rw [tS_congr (F := fun l => F (Tl.straight n :: l)) (G := fun l => G (Tl.straight n :: l)) (fun l hl => h _ ⟨_, l, rfl, .inl rfl, hl⟩), tS_congr (F := fun l => F (Tl.hook n x.natAbs :: l)) (G := fun l => G (Tl.hook n x.natAbs :: l)) (fun l hl => h _ ⟨_, l, rfl, .inr rfl, hl⟩)]
theorem quad {R : Type} [CR R] (a b c d P Q S T : R) : a * (c * P + d * Q) + b * (c * S + d * T) = c * (a * P + b * S) + d * (a * Q + b * T) := by
  rw [CR.mul_add, CR.mul_add, CR.mul_add, CR.mul_add]
  rw [← CR.mul_assoc a c, ← CR.mul_assoc a d, ← CR.mul_assoc b c, ← CR.mul_assoc b d, CR.mul_comm a c, CR.mul_comm a d, CR.mul_comm b c, CR.mul_comm b d]
  rw [CR.mul_assoc, CR.mul_assoc, CR.mul_assoc, CR.mul_assoc]
  generalize c * (a * P) = p1
  generalize d * (a * Q) = p2
  generalize c * (b * S) = p3
  generalize d * (b * T) = p4
  rw [CR.add_assoc, CR.add_assoc, ← CR.add_assoc p2, CR.add_comm p2, CR.add_assoc]
theorem tS_snoc {n : Nat} (x : Int) : ∀ (w : List Int) (F : List (List Nat) → LP), tS n F (w ++ [x]) = LP.term (sgx x) 1 * tS n (fun l => F (l ++ [Tl.straight n])) w + LP.term (-sgx x) 1 * tS n (fun l => F (l ++ [Tl.hook n x.natAbs])) w
  | [], F => rfl
  | y :: w, F => by
    show LP.term _ _ * tS n _ (w ++ [x]) + LP.term _ _ * tS n _ (w ++ [x]) = _
    rw [tS_snoc x w, tS_snoc x w, quad]
    rfl
/-! ### loops -/
theorem actS_plan {n : Nat} (h1 : 1 ≤ n) (h6 : n ≤ 6) {l : List (List Nat)} (h : Tl.Wd n l) : (actS n l).1 ∈ Tl.plan n := (Tl.stk_act h1 h6 (Tl.gens_plan h1 h6 (straight_gens n)).1 l h).2.2.2
theorem actS_snoc {n : Nat} (l : List (List Nat)) (g : List Nat) : actS n (l ++ [g]) = ((Tl.mul n (actS n l).1 g).1, (actS n l).2 + (Tl.mul n (actS n l).1 g).2) := Tl.act_snoc n _ l g
theorem act_straight {n : Nat} (h1 : 1 ≤ n) (h6 : n ≤ 6) {a : List (List Nat)} (ha : Tl.Wd n a) (b : List (List Nat)) : actS n (a ++ Tl.straight n :: b) = actS n (a ++ b) := by
  unfold actS
  rw [Tl.act_append, Tl.act_append]
  show Tl.act n ((Tl.mul n (actS n a).1 (Tl.straight n)).1, (actS n a).2 + (Tl.mul n (actS n a).1 (Tl.straight n)).2) b = Tl.act n (actS n a) b
  rw [(Tl.unit_r h6 (actS_plan h1 h6 ha)).1]
  rfl

/-! ### mirrored, backwards -/
/-! ### JONES -/
theorem lin3 {R : Type} [CR R] (p q r a b X X' Y Y' Z Z' : R) (h : p * X + -(q * Y) = r * Z) (h' : p * X' + -(q * Y') = r * Z') : p * (a * X + b * X') + -(q * (a * Y + b * Y')) = r * (a * Z + b * Z') := by
  have e : ∀ (u v : R), u * (a * v) = a * (u * v) := fun u v => by rw [← CR.mul_assoc, CR.mul_comm u a, CR.mul_assoc]
  have e' : ∀ (u v : R), u * (b * v) = b * (u * v) := fun u v => by rw [← CR.mul_assoc, CR.mul_comm u b, CR.mul_assoc]
  rw [CR.mul_add, CR.mul_add, CR.mul_add, e, e', e, e', e, e', ← h, ← h', CR.mul_add, CR.mul_add, CR.mul_neg, CR.mul_neg, CR.neg_add_rev]
  generalize a * (p * X) = p1
  generalize b * (p * X') = p2
  generalize a * (q * Y) = p3
  generalize b * (q * Y') = p4
  rw [CR.add_assoc, CR.add_assoc, ← CR.add_assoc p2, CR.add_comm p2, CR.add_assoc]
theorem skein_base (X Y : LP) : LP.term 1 1 * (LP.term 1 1 * X + LP.term (-1) 1 * Y) + -(LP.term (-1) 1 * (LP.term (-1) 1 * X + LP.term (- -1) 1 * Y)) = (LP.term 2 1 + -LP.term (-2) 1) * X := LP.ext fun k => by
  rw [CR.add_mul, CR.neg_mul]
  simp only [LP.co_add, LP.co_neg, LP.co_term_mul, Int.one_mul]
  rw [show k - 1 - 1 = k - 2 by omega, show k - 1 - -1 = k by omega, show k - -1 - -1 = k - -2 by omega, show k - -1 - - -1 = k by omega]
  omega
theorem tS_skein {n : Nat} {i : Nat} (hi : 1 ≤ i) (v : List Int) : ∀ (u : List Int) (F : List (List Nat) → LP), (∀ a b, Ch n u a → Ch n v b → F (a ++ Tl.straight n :: b) = F (a ++ b)) →
    LP.term 1 1 * tS n F (u ++ (i : Int) :: v) + -(LP.term (-1) 1 * tS n F (u ++ -(i : Int) :: v)) = (LP.term 2 1 + -LP.term (-2) 1) * tS n F (u ++ v)
  | [], F, h => by
    show LP.term 1 1 * (LP.term (sgx i) 1 * tS n _ v + LP.term (-sgx i) 1 * tS n _ v) + -(LP.term (-1) 1 * (LP.term (sgx (-(i : Int))) 1 * tS n _ v + LP.term (-sgx (-(i : Int))) 1 * tS n _ v)) = _ * tS n F v
    have e1 : sgx (i : Int) = 1 := by unfold sgx; rw [if_pos (by omega)]
    have e2 : sgx (-(i : Int)) = -1 := by unfold sgx; rw [if_neg (by omega)]
    have e3 : tS n (fun l => F (Tl.straight n :: l)) v = tS n F v := tS_congr fun l hl => h [] l rfl hl
    rw [e1, e2, e3, Int.natAbs_neg]
    exact skein_base _ _
  | x :: u, F, h => by
    have h1 := tS_skein hi v u (fun l => F (Tl.straight n :: l)) (fun a b ha hb => h _ b ⟨_, a, rfl, .inl rfl, ha⟩ hb)
    have h2 := tS_skein hi v u (fun l => F (Tl.hook n x.natAbs :: l)) (fun a b ha hb => h _ b ⟨_, a, rfl, .inr rfl, ha⟩ hb)
    exact lin3 _ _ _ _ _ _ _ _ _ _ _ h1 h2
theorem brk_skein {n i : Nat} (h1 : 1 ≤ n) (h6 : n ≤ 6) (hi : 1 ≤ i) {u v : List Int} (hu : ∀ x ∈ u, x ≠ 0 ∧ x.natAbs < n) :
    LP.term 1 1 * brk n (u ++ (i : Int) :: v) + -(LP.term (-1) 1 * brk n (u ++ -(i : Int) :: v)) = (LP.term 2 1 + -LP.term (-2) 1) * brk n (u ++ v) :=
  tS_skein hi v u _ fun a b ha hb => by
    unfold lps
    rw [act_straight h1 h6 (ha.wd hu)]

/-! ### bounds -/
def hkN (n : Nat) (l : List (List Nat)) : Nat := l.countP fun g => !Tl.eqL g (Tl.straight n)
theorem eqL_refl : ∀ l, Tl.eqL l l = true
  | [] => rfl
  | x :: l => by rw [Tl.eqL, Nat.beq_refl]; exact eqL_refl l
theorem hkN_straight (n : Nat) (l : List (List Nat)) : hkN n (Tl.straight n :: l) = hkN n l := by unfold hkN; rw [List.countP_cons_of_neg (by rw [eqL_refl]; simp)]
theorem hkN_cons (n : Nat) (g : List Nat) (l : List (List Nat)) : hkN n (g :: l) ≤ hkN n l + 1 := by unfold hkN; rw [List.countP_cons]; split <;> omega
theorem cir_straight : (List.range 7).all (fun n => n == 0 || Tl.cir n (Tl.straight n) == n) = true := by decide +kernel
theorem lps_le {n : Nat} (h1 : 1 ≤ n) (h6 : n ≤ 6) (l : List (List Nat)) : Tl.Wd n l → lps n l ≤ n + hkN n l := by
  induction l using Tl.snocI with
  | h0 =>
    intro _
    have h2 := cir_straight
    rw [List.all_eq_true] at h2
    have h3 := h2 n (List.mem_range.2 (by omega))
    simp only [Bool.or_eq_true, beq_iff_eq] at h3
    show 0 + Tl.cir n (Tl.straight n) ≤ _
    omega
  | h1 l g ih =>
    intro h
    have hl : Tl.Wd n l := fun y hy => h y (by simp [hy])
    have hg : g ∈ Tl.gens n := h g (by simp)
    have ih := ih hl
    have hp := actS_plan h1 h6 hl
    have hk : hkN n (l ++ [g]) = hkN n l + hkN n [g] := by unfold hkN; rw [List.countP_append]
    have hlp : lps n (l ++ [g]) = (actS n l).2 + (Tl.mul n (actS n l).1 g).2 + Tl.cir n (Tl.mul n (actS n l).1 g).1 := by unfold lps; rw [actS_snoc]
    have h0 : lps n l = (actS n l).2 + Tl.cir n (actS n l).1 := rfl
    rw [hk, hlp]
    by_cases e : g = Tl.straight n
    · subst e
      rw [(Tl.unit_r h6 hp).1]
      simp only
      omega
    · have h3 := ((Tl.plan_jon h6 hp hg).1).loops
      have h4 : hkN n [g] = 1 := by
        unfold hkN
        rw [List.countP_cons_of_pos, List.countP_nil]
        cases he : Tl.eqL g (Tl.straight n) with
        | true => exact absurd (Tl.eqL_spec he) e
        | false => rfl
      omega
theorem dlt_n1 : ∀ k, LP.N1 (dlt k) (2 * k) (2 ^ k)
  | 0 => LP.N1.one
  | k + 1 => by
    have h := (dlt_n1 k).mul (LP.N1.add (LP.N1.term 2 (-1)) (LP.N1.term (-2) (-1)))
    exact h.mono (by show 2 * k + 2 ≤ _; omega) (by rw [Nat.pow_succ]; exact Nat.le_refl _)
theorem tS_n1 {n : Nat} : ∀ {w : List Int} {F : List (List Nat) → LP} {E K : Nat}, (∀ l, Ch n w l → LP.N1 (F l) E (2 ^ (K + hkN n l))) → LP.N1 (tS n F w) (E + w.length) (2 ^ K * 3 ^ w.length)
  | [], F, E, K, h => (h [] rfl).mono (Nat.le_refl _) (by simp [hkN])
  | x :: w, F, E, K, h => by
    have h1 := tS_n1 (n := n) (w := w) (F := fun l => F (Tl.straight n :: l)) (E := E) (K := K) fun l hl => by
      have := h _ ⟨_, l, rfl, .inl rfl, hl⟩
      rwa [hkN_straight] at this
    have h2 := tS_n1 (n := n) (w := w) (F := fun l => F (Tl.hook n x.natAbs :: l)) (E := E) (K := K + 1) fun l hl => by
      have := h _ ⟨_, l, rfl, .inr rfl, hl⟩
      exact this.mono (Nat.le_refl _) (Nat.pow_le_pow_right (by omega) (by have := hkN_cons n (Tl.hook n x.natAbs) l; omega))
    have a1 := (LP.N1.term (sgx x) 1).mul h1
    have a2 := (LP.N1.term (-sgx x) 1).mul h2
    rw [sgx_abs] at a1
    rw [Int.natAbs_neg, sgx_abs] at a2
    refine (a1.add a2).mono (by rw [List.length_cons]; omega) ?_
    rw [List.length_cons, Nat.pow_succ, Nat.pow_succ]
    have e : (1 : Int).natAbs = 1 := rfl
    rw [e]
    generalize 3 ^ w.length = y
    generalize 2 ^ K = z
    rw [Nat.one_mul, Nat.one_mul, ← Nat.mul_assoc, Nat.mul_assoc z 2 y, Nat.mul_comm 2 y, ← Nat.mul_assoc]
    omega
theorem brk_n1 {n : Nat} (h1 : 1 ≤ n) (h6 : n ≤ 6) {w : List Int} (hw : ∀ x ∈ w, x ≠ 0 ∧ x.natAbs < n) (hl : w.length ≤ 12) : LP.N1 (brk n w) (34 + w.length) (32 * 3 ^ w.length) := by
  have hk : ∀ {w : List Int} {l : List (List Nat)}, Ch n w l → l.length = w.length := fun {w} => by
    induction w with
    | nil => intro l h; have : l = [] := h; rw [this]; rfl
    | cons x w ih =>
      intro l h
      obtain ⟨g, m, rfl, _, hm⟩ := h
      rw [List.length_cons, List.length_cons, ih hm]
  exact tS_n1 (K := 5) fun l hc => by
    have h2 := lps_le h1 h6 l (hc.wd hw)
    have h3 : hkN n l ≤ l.length := List.countP_le_length
    have h4 := hk hc
    exact (dlt_n1 _).mono (by omega) (Nat.pow_le_pow_right (by omega) (by omega))
/-- The Jones polynomial. -/
noncomputable def jon (n : Nat) (w : List Int) : LP := brk n w * LP.term (-3 * LP.expo w) (if LP.expo w % 2 = 0 then 1 else -1)
theorem jon_n1 {n : Nat} (h1 : 1 ≤ n) (h6 : n ≤ 6) {w : List Int} (hw : ∀ x ∈ w, x ≠ 0 ∧ x.natAbs < n) (hl : w.length ≤ 12) : LP.N1 (jon n w) (34 + 4 * w.length) (32 * 3 ^ w.length) := by
  have h := (brk_n1 h1 h6 hw hl).mul (LP.N1.term (-3 * LP.expo w) (if LP.expo w % 2 = 0 then 1 else -1))
  have h2 := LP.expo_le w
  refine h.mono (by omega) ?_
  have e : (if LP.expo w % 2 = 0 then (1 : Int) else -1).natAbs = 1 := by split <;> rfl
  rw [e, Nat.mul_one]
  exact Nat.le_refl _
end Go.Proofs.Ytmeicmhojingfaa
/- A sum of planar matchings with factors, letter by letter: the bracket without following each choice (mathematics of package jones). -/
namespace Go.Proofs.Ytmeicmhojingfaa
set_option linter.unusedVariables false
set_option linter.unusedSimpArgs false

/-- A sum of matchings: entries with distinct keys. -/
abbrev Cmb := List (List Nat × LP)
/-- The sum of the factors, each times a function of its matching. -/
noncomputable def sumO (G : List Nat → LP) : Cmb → LP
  | [] => 0
  | p :: o => p.2 * G p.1 + sumO G o
noncomputable def getO : Cmb → List Nat → LP
  | [], _ => 0
  | p :: o, d => if p.1 = d then p.2 else getO o d
noncomputable def putO : Cmb → List Nat → LP → Cmb
  | [], d, q => [(d, q)]
  | p :: o, d, q => if p.1 = d then (d, q) :: o else p :: putO o d q
noncomputable def addO (o : Cmb) (d : List Nat) (q : LP) : Cmb := putO o d (getO o d + q)
theorem sumO_add (G : List Nat → LP) (d : List Nat) (q : LP) : ∀ o : Cmb, sumO G (addO o d q) = sumO G o + q * G d
  | [] => by
    show (0 + q) * G d + 0 = 0 + q * G d
    rw [CR.zero_add, CR.add_comm]
  | p :: o => by
    have ih := sumO_add G d q o
    unfold addO at ih ⊢
    unfold putO getO
    by_cases h : p.1 = d
    · rw [if_pos h, if_pos h]
      show (p.2 + q) * G d + sumO G o = p.2 * G p.1 + sumO G o + q * G d
      rw [h, CR.add_mul, CR.add_assoc, CR.add_assoc, CR.add_comm (q * G d)]
    · rw [if_neg h, if_neg h]
      show p.2 * G p.1 + sumO G (putO o d (getO o d + q)) = _
      rw [ih, ← CR.add_assoc]
      rfl
theorem sumO_perm (G : List Nat → LP) {a b : Cmb} (h : a.Perm b) : sumO G a = sumO G b := by
  induction h with
  | nil => rfl
  | cons x _ ih => show _ + _ = _ + _; rw [ih]
  | swap x y l =>
    show y.2 * G y.1 + (x.2 * G x.1 + sumO G l) = x.2 * G x.1 + (y.2 * G y.1 + sumO G l)
    rw [← CR.add_assoc, ← CR.add_assoc, CR.add_comm (y.2 * G y.1)]
  | trans _ _ h1 h2 => exact h1.trans h2
/-- Bounds: all factors together. -/
inductive NmO (E : Nat) : Cmb → Nat → Prop
  | nil : NmO E [] 0
  | cons (d : List Nat) (q : LP) (o : Cmb) (v V : Nat) : LP.N1 q E v → NmO E o V → NmO E ((d, q) :: o) (v + V)
theorem NmO.mono {E E' : Nat} {o : Cmb} {V : Nat} (h : NmO E o V) (he : E ≤ E') : NmO E' o V := by
  induction h with
  | nil => exact .nil
  | cons d q o v V hq _ ih => exact .cons d q o v V (hq.mono he (Nat.le_refl _)) ih
theorem NmO.inv {E : Nat} {d : List Nat} {q : LP} {o : Cmb} {V : Nat} (h : NmO E ((d, q) :: o) V) : ∃ v v', LP.N1 q E v ∧ NmO E o v' ∧ v + v' = V := by
  cases h with
  | cons _ _ _ v V' hq ho => exact ⟨v, V', hq, ho, rfl⟩
theorem NmO.perm {E : Nat} {a b : Cmb} (h : a.Perm b) : ∀ {V : Nat}, NmO E a V → NmO E b V := by
  induction h with
  | nil => exact fun h => h
  | cons x _ ih =>
    intro V h
    obtain ⟨v, v', h1, h2, rfl⟩ := NmO.inv (d := x.1) (q := x.2) h
    exact .cons x.1 x.2 _ _ _ h1 (ih h2)
  | swap x y l =>
    intro V h
    obtain ⟨v, v', h1, h2, rfl⟩ := NmO.inv (d := y.1) (q := y.2) h
    obtain ⟨u, u', h3, h4, rfl⟩ := NmO.inv (d := x.1) (q := x.2) h2
    have := NmO.cons x.1 x.2 _ _ _ h3 (NmO.cons y.1 y.2 _ _ _ h1 h4)
    rwa [show u + (v + u') = v + (u + u') by omega] at this
  | trans _ _ h1 h2 => exact fun h => h2 (h1 h)
theorem NmO.get {E : Nat} {o : Cmb} {V : Nat} (h : NmO E o V) (d : List Nat) : ∃ v, v ≤ V ∧ LP.N1 (getO o d) E v := by
  induction h with
  | nil => exact ⟨0, Nat.le_refl _, LP.N1.zero.mono (Nat.zero_le _) (Nat.le_refl _)⟩
  | cons e q o v V hq _ ih =>
    unfold getO
    by_cases h : e = d
    · rw [if_pos h]; exact ⟨v, by omega, hq⟩
    · rw [if_neg h]
      obtain ⟨u, hu, h1⟩ := ih
      exact ⟨u, by omega, h1⟩
theorem NmO.add {E : Nat} {o : Cmb} {V : Nat} (h : NmO E o V) (d : List Nat) {q : LP} {u : Nat} (hq : LP.N1 q E u) : NmO E (addO o d q) (V + u) := by
  unfold addO
  induction h with
  | nil =>
    have := NmO.cons d (0 + q) [] u 0 (by rw [CR.zero_add]; exact hq) .nil
    show NmO E [(d, 0 + q)] (0 + u)
    rwa [Nat.add_comm 0 u]
  | cons e p o v V hp ho ih =>
    unfold getO putO
    by_cases h : e = d
    · rw [if_pos h, if_pos h]
      have := NmO.cons d (p + q) o (v + u) V (hp.add hq) ho
      rwa [show v + V + u = v + u + V by omega]
    · rw [if_neg h, if_neg h]
      have := NmO.cons e p _ v (V + u) hp ih
      rwa [Nat.add_assoc]
theorem putO_keys {d : List Nat} {q : LP} : ∀ {o : Cmb} {x : List Nat}, x ∈ (putO o d q).map (·.1) → x = d ∨ x ∈ o.map (·.1)
  | [], x, h => .inl (by simpa [putO] using h)
  | p :: o, x, h => by
    unfold putO at h
    by_cases e : p.1 = d
    · rw [if_pos e] at h
      rcases List.mem_cons.1 h with h | h
      · exact .inl h
      · exact .inr (List.mem_cons_of_mem _ h)
    · rw [if_neg e] at h
      rcases List.mem_cons.1 h with h | h
      · exact .inr (by rw [h]; exact List.mem_cons_self)
      · rcases putO_keys h with h | h
        · exact .inl h
        · exact .inr (List.mem_cons_of_mem _ h)

/-! ### sums over choices -/
theorem jq_pull {n : Nat} (c : LP) : ∀ (w : List Int) (F : List (List Nat) → LP), tS n (fun l => c * F l) w = c * tS n F w
  | [], F => rfl
  | x :: w, F => by
    show LP.term _ _ * tS n (fun l => c * F (_ :: l)) w + LP.term _ _ * tS n (fun l => c * F (_ :: l)) w = c * (LP.term _ _ * tS n _ w + LP.term _ _ * tS n _ w)
    rw [jq_pull c w, jq_pull c w, CR.mul_add, ← CR.mul_assoc, ← CR.mul_assoc, ← CR.mul_assoc, ← CR.mul_assoc, CR.mul_comm c, CR.mul_comm c]
theorem jq_add4 {R : Type} [CR R] (a b p q r s : R) : a * (p + q) + b * (r + s) = (a * p + b * r) + (a * q + b * s) := by
  rw [CR.mul_add, CR.mul_add]
  generalize a * p = x
  generalize a * q = y
  generalize b * r = z
  generalize b * s = t
  rw [CR.add_assoc, CR.add_assoc, ← CR.add_assoc y, CR.add_comm y, CR.add_assoc]
theorem jq_plus {n : Nat} : ∀ (w : List Int) (F G : List (List Nat) → LP), tS n (fun l => F l + G l) w = tS n F w + tS n G w
  | [], F, G => rfl
  | x :: w, F, G => by
    show LP.term _ _ * tS n (fun l => F (_ :: l) + G (_ :: l)) w + LP.term _ _ * tS n (fun l => F (_ :: l) + G (_ :: l)) w = (LP.term _ _ * tS n _ w + LP.term _ _ * tS n _ w) + (LP.term _ _ * tS n _ w + LP.term _ _ * tS n _ w)
    rw [jq_plus w, jq_plus w, jq_add4]
theorem jq_dlt : ∀ a b : Nat, dlt (a + b) = dlt a * dlt b
  | a, 0 => (CR.mul_one _).symm
  | a, b + 1 => by
    show dlt (a + b) * _ = dlt a * (dlt b * _)
    rw [jq_dlt a b, CR.mul_assoc]

/-- The sum of matchings behind a word: each choice leads to its matching. -/
def Beh (n : Nat) (w : List Int) (o : Cmb) : Prop := ∀ G : List Nat → LP, sumO G o = tS n (fun l => dlt (actS n l).2 * G (actS n l).1) w
theorem Beh.nil (n : Nat) : Beh n [] (addO [] (Tl.straight n) (LP.term 0 1)) := fun G => by
  rw [sumO_add]
  show 0 + LP.term 0 1 * G (Tl.straight n) = 1 * G (Tl.straight n)
  rw [CR.zero_add]
  rfl
/-- What a letter makes of one entry. -/
noncomputable def stepO (n : Nat) (x : Int) (o : Cmb) (d : List Nat) (q : LP) : Cmb :=
  addO (addO o d (q * LP.term (sgx x) 1)) (Tl.mul n d (Tl.hook n x.natAbs)).1 (q * LP.term (-sgx x) 1 * dlt (Tl.mul n d (Tl.hook n x.natAbs)).2)
/-- The function that a letter leads back to. -/
noncomputable def backO (n : Nat) (x : Int) (G : List Nat → LP) (d : List Nat) : LP :=
  LP.term (sgx x) 1 * G d + LP.term (-sgx x) 1 * (dlt (Tl.mul n d (Tl.hook n x.natAbs)).2 * G (Tl.mul n d (Tl.hook n x.natAbs)).1)
theorem stepO_sum (n : Nat) (x : Int) (o : Cmb) (d : List Nat) (q : LP) (G : List Nat → LP) : sumO G (stepO n x o d q) = sumO G o + q * backO n x G d := by
  unfold stepO backO
  rw [sumO_add, sumO_add, CR.mul_add, CR.add_assoc]
  simp only [CR.mul_assoc]
theorem Beh.snoc {n : Nat} (h1 : 1 ≤ n) (h6 : n ≤ 6) {w : List Int} {o o' : Cmb} {x : Int} (h : Beh n w o) (hw : ∀ y ∈ w, y ≠ 0 ∧ y.natAbs < n) (hx : x ≠ 0 ∧ x.natAbs < n)
    (hs : ∀ G, sumO G o' = sumO (backO n x G) o) : Beh n (w ++ [x]) o' := fun G => by
  rw [hs, h, tS_snoc, ← jq_pull, ← jq_pull, ← jq_plus]
  refine tS_congr fun l hl => ?_
  have hwd := hl.wd hw
  have hp := actS_plan h1 h6 hwd
  rw [actS_snoc, actS_snoc, (Tl.unit_r h6 hp).1]
  unfold backO
  simp only [Nat.add_zero]
  rw [jq_dlt, CR.mul_add]
  generalize dlt (actS n l).2 = a
  generalize dlt (Tl.mul n (actS n l).1 (Tl.hook n x.natAbs)).2 = b
  generalize G (actS n l).1 = c
  generalize G (Tl.mul n (actS n l).1 (Tl.hook n x.natAbs)).1 = e
  generalize LP.term (sgx x) 1 = p
  generalize LP.term (-sgx x) 1 = q
  rw [← CR.mul_assoc a p, CR.mul_comm a p, CR.mul_assoc p, ← CR.mul_assoc a q, CR.mul_comm a q, CR.mul_assoc q, CR.mul_assoc a b]
theorem Beh.closed {n : Nat} (h1 : 1 ≤ n) (h6 : n ≤ 6) {w : List Int} {o : Cmb} (h : Beh n w o) (hw : ∀ y ∈ w, y ≠ 0 ∧ y.natAbs < n) (hc : ∀ d ∈ Tl.plan n, 1 ≤ Tl.cir n d) :
    sumO (fun d => dlt (Tl.cir n d - 1)) o = brk n w := by
  rw [h]
  unfold brk
  refine tS_congr fun l hl => ?_
  have hp := actS_plan h1 h6 (hl.wd hw)
  have := hc _ hp
  unfold lps
  rw [← jq_dlt, show (actS n l).2 + (Tl.cir n (actS n l).1 - 1) = (actS n l).2 + Tl.cir n (actS n l).1 - 1 by omega]

/-! ### bounds of a step -/
theorem NmO.step {E n : Nat} {x : Int} {o : Cmb} {V : Nat} {d : List Nat} {q : LP} {v : Nat} (h : NmO (E + 3) o V) (hq : LP.N1 q E v) (hm : (Tl.mul n d (Tl.hook n x.natAbs)).2 ≤ 1) : NmO (E + 3) (stepO n x o d q) (V + 3 * v) := by
  unfold stepO
  have a1 := hq.mul (LP.N1.term (sgx x) 1)
  have a2 := (hq.mul (LP.N1.term (-sgx x) 1)).mul (dlt_n1 (Tl.mul n d (Tl.hook n x.natAbs)).2)
  have e1 : (1 : Int).natAbs = 1 := rfl
  rw [sgx_abs, e1, Nat.mul_one] at a1
  rw [Int.natAbs_neg, sgx_abs, e1, Nat.mul_one] at a2
  have e2 : 2 ^ (Tl.mul n d (Tl.hook n x.natAbs)).2 ≤ 2 := Nat.pow_le_pow_right (n := 2) (by omega) hm
  have h2 := (h.add d (a1.mono (by omega) (Nat.le_refl _))).add (Tl.mul n d (Tl.hook n x.natAbs)).1 (a2.mono (E' := E + 3) (by omega) (Nat.mul_le_mul_left v e2))
  rwa [show V + v + v * 2 = V + 3 * v by omega] at h2
end Go.Proofs.Ytmeicmhojingfaa
/- Package jones: a sum of matchings in memory, as a map whose keys are arrays and whose elements are polynomials. -/
namespace Go.Proofs.Ytmeicmhojingfaa
set_option linter.unusedVariables false
set_option linter.unusedSimpArgs false
open Go.RowKit Go.Maps

/-! ### keys -/
def kyA (d : List Nat) : Array Value := ((List.range 12).map fun j : Nat => Value.int .i64 ((d.getD j 0 : Nat) : Int)).toArray
def ky (d : List Nat) : Value := .agg (kyA d)
theorem kyA_size (d : List Nat) : (kyA d).size = 12 := by simp [kyA]
theorem kyA_get (d : List Nat) (j : Nat) (hj : j < 12) : (kyA d)[j]? = some (.int .i64 ((d.getD j 0 : Nat) : Int)) := by
  simp [kyA, hj]
theorem kyA_one (d : List Nat) : (kyA d).all (·.oneCell') = true := by simp [kyA, Value.oneCell']
theorem ky_inj {d e : List Nat} (hl : d.length = e.length) (h12 : d.length ≤ 12) (h : ky d = ky e) : d = e := by
  unfold ky at h
  injection h with h
  refine List.ext_getElem hl fun j h1 h2 => ?_
  have hj : j < 12 := by omega
  have h3 := congrArg (fun a : Array Value => a[j]?) h
  simp only [kyA_get _ j hj, Option.some.injEq, Value.int.injEq, true_and] at h3
  have h4 : d.getD j 0 = e.getD j 0 := by omega
  simpa [List.getD, h1, h2] using h4
theorem mapM_tot {α β : Type} {f : α → Option β} {g : α → β} : ∀ (l : List α), (∀ x ∈ l, f x = some (g x)) → l.mapM f = some (l.map g)
  | [], _ => by simp
  | x :: l, h => by simp [h x (by simp), mapM_tot l fun y hy => h y (by simp [hy])]
theorem rowK : (76 : TypeId) < Try.prog.types.size := of_decide_eq_true (by kernel_rfl)
theorem laidOutK : laidOutB Try.prog = true := by kernel_rfl
theorem keyAtK : Try.prog.keyTypeAt 2 76 = true := by kernel_rfl
theorem wideK : (match Try.prog.underlying 76 with | some (.array _ _) | some (.struct _) => true | _ => false) = true := by rw [Try.underlying76]
set_option maxRecDepth 100000 in
theorem keyK : Keyed Try.prog 76 := Keyed.of_law (deep_law_laid (P := Try.prog) laidOutK (m := 2) (by omega) (k := 76) rowK keyAtK wideK)
theorem cellsK : Try.prog.cellsOf 76 = 12 := by kernel_rfl
theorem cellsI : Try.prog.cellsOf 3 = 1 := by kernel_rfl
theorem keyTypeK : Try.prog.keyType 76 = true := by kernel_rfl
theorem keyE {d : List Nat} (hp : ∀ j, d.getD j 0 ≤ 1000) : ∃ kl, keyOf Try.prog 76 (ky d) = some kl := by
  have hl : ∀ dp i, i ∈ List.range 12 → Try.prog.keyLits (dp + 1) 3 (((kyA d).toList.drop (i * Try.prog.cellsOf 3)).take (Try.prog.cellsOf 3)) = some [.int .i64 ((d.getD i 0 : Nat) : Int)] := by
    intro dp i hi
    have hi9 : i < 12 := by simpa using hi
    have hx := hp i
    have e : ((kyA d).toList.drop (i * Try.prog.cellsOf 3)).take (Try.prog.cellsOf 3) = [Value.int .i64 ((d.getD i 0 : Nat) : Int)] := by
      rw [cellsI, Nat.mul_one]
      have hg := kyA_get d i hi9
      have hs := kyA_size d
      rw [List.take_one]
      simp only [List.head?_drop, Array.getElem?_toList, hg, Option.toList_some]
    rw [e]
    generalize d.getD i 0 = x at hx
    have hw : (Lit.int .i64 (x : Int)).wf = true := by
      simp [Lit.wf, IntKind.min, IntKind.max, IntKind.signed, IntKind.bits]
      omega
    unfold Program.keyLits
    simp [Try.underlying3, hw]
  have hlen : (kyA d).toList.length = Try.prog.cellsOf 76 := by rw [cellsK]; exact kyA_size d
  have hf : (Value.agg (kyA d)).formed Try.prog 76 = true := by
    simp [Value.formed, Try.underlying76, kyA_size, cellsK]
  obtain ⟨dp, hd⟩ : ∃ dp, Try.prog.types.size = dp + 1 := ⟨Try.prog.types.size - 1, by have h69 : 76 < Try.prog.types.size := rowK; omega⟩
  refine ⟨.string (keyBytes (((List.range 12).map fun i => [Lit.int .i64 ((d.getD i 0 : Nat) : Int)]).flatten)), ?_⟩
  unfold keyOf ky
  rw [Try.underlying76]
  simp only [keyTypeK, hf, Bool.and_self, if_true, Value.cells]
  unfold Program.keyLits
  simp only [Try.underlying76, hlen, if_true]
  rw [hd, mapM_tot (List.range 12) (hl dp)]
  rfl

/-! ### polynomials as values, sums of matchings as maps -/
/-- The value reads as q; its coefficients lie in blocks from K on. -/
def JQ (w : World) (K : Nat) (v : Value) (q : LP) : Prop := ∃ A n c, v = PV (LP.canon q).1 A n c ∧ SL w A n c (LP.canon q).2 ∧ (0 < n → ∀ ad, A = some ad → K ≤ ad.block)
theorem JQ.below {w w' : World} {K : Nat} {v : Value} {q : LP} (h : JQ w K v q) (hb : Below w.heap.size w w') : JQ w' K v q := by
  obtain ⟨A, n, c, e, h1, h2⟩ := h
  exact ⟨A, n, c, e, h1.below hb, h2⟩
theorem JQ.mono {w : World} {K K' : Nat} {v : Value} {q : LP} (h : JQ w K v q) (hk : K' ≤ K) : JQ w K' v q := by
  obtain ⟨A, n, c, e, h1, h2⟩ := h
  exact ⟨A, n, c, e, h1, fun hn ad ea => Nat.le_trans hk (h2 hn ad ea)⟩
theorem JQ.zero (w : World) (K : Nat) : JQ w K (PV 0 none 0 0) 0 := ⟨none, 0, 0, by rw [LP.canon_zero], by rw [LP.canon_zero]; exact SL.nil_ w, fun h => absurd h (by omega)⟩
theorem JQ.set_ {w : World} {K g i : Nat} {v u : Value} {q : LP} (h : JQ w K v q) (hg : g < K) : JQ (w.setCell ⟨g, i, none⟩ u) K v q := by
  obtain ⟨A, n, c, e, h1, h2⟩ := h
  exact ⟨A, n, c, e, h1.setCell (fun hn ad ea => by have := h2 hn ad ea; omega) i u, h2⟩
/-- A block other than those of the polynomial is changed. -/
theorem JQ.kept {w w' : World} {K g : Nat} {v : Value} {q : LP} (h : JQ w K v q) (hg : w.grownBy w' (some g)) (hm : ∀ ad : Addr, ad.block = g → w.cell? ad = none) : JQ w' K v q := by
  obtain ⟨A, n, c, e, h1, h2⟩ := h
  refine ⟨A, n, c, e, ⟨⟨h1.il.len, h1.il.small, fun hn => ?_⟩, h1.nil, h1.cap⟩, h2⟩
  obtain ⟨ad, ea, hl, hc⟩ := h1.il.mem hn
  have hne : ad.block ≠ g := by
    intro e2
    have h3 := hc 0 hn
    rw [hm _ (by rw [block_of_add]; exact e2)] at h3
    cases h3
  refine ⟨ad, ea, Nat.lt_of_lt_of_le hl hg.size, fun j hj => ?_⟩
  rw [← hc j hj]
  unfold World.cell?
  rw [block_of_add, hg.block ad.block hl (fun e2 => by injection e2 with e2; exact hne e2)]
/-- Entries in memory. -/
inductive Ents (w : World) (K : Nat) : List (Value × Value) → Cmb → Prop
  | nil : Ents w K [] []
  | cons (d : List Nat) (v : Value) (q : LP) (T : List (Value × Value)) (o : Cmb) : JQ w K v q → Ents w K T o → Ents w K ((ky d, v) :: T) ((d, q) :: o)
theorem Ents.inv {w : World} {K : Nat} {x : Value × Value} {T : List (Value × Value)} {o : Cmb} (h : Ents w K (x :: T) o) : ∃ d q o', o = (d, q) :: o' ∧ x.1 = ky d ∧ JQ w K x.2 q ∧ Ents w K T o' := by
  cases h with
  | cons d v q _ o' h1 h2 => exact ⟨d, q, o', rfl, rfl, h1, h2⟩
theorem Ents.map {w w' : World} {K K' : Nat} {T : List (Value × Value)} {o : Cmb} (h : Ents w K T o) (hf : ∀ v q, JQ w K v q → JQ w' K' v q) : Ents w' K' T o := by
  induction h with
  | nil => exact .nil
  | cons d v q T o h1 _ ih => exact .cons d v q T o (hf _ _ h1) ih
theorem Ents.perm {w : World} {K : Nat} {T T' : List (Value × Value)} (hp : T.Perm T') : ∀ {o : Cmb}, Ents w K T o → ∃ o', o.Perm o' ∧ Ents w K T' o' := by
  induction hp with
  | nil => exact fun {o} h => ⟨o, List.Perm.refl _, h⟩
  | cons x _ ih =>
    intro o h
    obtain ⟨d, q, o1, rfl, e, h1, h2⟩ := h.inv
    obtain ⟨o2, hp2, h3⟩ := ih h2
    obtain ⟨x1, x2⟩ := x
    have e : x1 = ky d := e
    subst e
    exact ⟨(d, q) :: o2, hp2.cons _, .cons d _ q _ _ h1 h3⟩
  | swap x y l =>
    intro o h
    obtain ⟨d, q, o1, rfl, e, h1, h2⟩ := h.inv
    obtain ⟨d', q', o2, rfl, e', h1', h2'⟩ := h2.inv
    obtain ⟨x1, x2⟩ := x
    obtain ⟨y1, y2⟩ := y
    have e : y1 = ky d := e
    have e' : x1 = ky d' := e'
    subst e; subst e'
    exact ⟨(d', q') :: (d, q) :: o2, List.Perm.swap _ _ _, .cons d' _ q' _ _ h1' (.cons d _ q _ _ h1 h2')⟩
  | trans _ _ i1 i2 =>
    intro o h
    obtain ⟨o1, p1, h1⟩ := i1 h
    obtain ⟨o2, p2, h2⟩ := i2 h1
    exact ⟨o2, p1.trans p2, h2⟩
theorem Ents.length {w : World} {K : Nat} {T : List (Value × Value)} {o : Cmb} (h : Ents w K T o) : T.length = o.length := by
  induction h with
  | nil => rfl
  | cons d v q T o _ _ ih => rw [List.length_cons, List.length_cons, ih]
/-- All keys are as long as d. -/
def Same (N : Nat) (o : Cmb) : Prop := ∀ p ∈ o, p.1.length = N
theorem Ents.look {w : World} {K N : Nat} {T : List (Value × Value)} {o : Cmb} (h : Ents w K T o) (hs : Same N o) (hN : N ≤ 12) {d : List Nat} (hd : d.length = N) : JQ w K ((lookW T (ky d)).getD (PV 0 none 0 0)) (getO o d) := by
  induction h with
  | nil => exact JQ.zero w K
  | cons e v q T o h1 _ ih =>
    unfold lookW getO
    have hl : e.length = N := hs (e, q) List.mem_cons_self
    by_cases h : e = d
    · subst h
      rw [if_pos rfl, if_pos rfl]
      exact h1
    · rw [if_neg (fun e2 => h (ky_inj (hl.trans hd.symm) (by omega) e2)), if_neg h]
      exact ih fun p hp => hs p (List.mem_cons_of_mem _ hp)
theorem Ents.put {w : World} {K N : Nat} {T : List (Value × Value)} {o : Cmb} (h : Ents w K T o) (hs : Same N o) (hN : N ≤ 12) {d : List Nat} (hd : d.length = N) {v : Value} {q : LP} (hq : JQ w K v q) : Ents w K (putW T (ky d) v) (putO o d q) := by
  induction h with
  | nil => exact .cons d v q [] [] hq .nil
  | cons e u p T o h1 h2 ih =>
    unfold putW putO
    have hl : e.length = N := hs (e, p) List.mem_cons_self
    by_cases h : e = d
    · subst h
      rw [if_pos rfl, if_pos rfl]
      exact .cons e v q T o hq h2
    · rw [if_neg (fun e2 => h (ky_inj (hl.trans hd.symm) (by omega) e2)), if_neg h]
      exact .cons e u p _ _ h1 (ih fun r hr => hs r (List.mem_cons_of_mem _ hr))
theorem Ents.mem {w : World} {K : Nat} {T : List (Value × Value)} {o : Cmb} (h : Ents w K T o) : ∀ p ∈ T, ∃ d ∈ o.map (·.1), p.1 = ky d := by
  induction h with
  | nil => intro p hp; cases hp
  | cons d v q T o _ _ ih =>
    intro p hp
    rcases List.mem_cons.1 hp with e | hp
    · subst e
      exact ⟨d, List.mem_cons_self, rfl⟩
    · obtain ⟨d2, h1, h2⟩ := ih p hp
      exact ⟨d2, List.mem_cons_of_mem _ h1, h2⟩

/-- Block b is the map of a sum of matchings on n strands. -/
structure CmB (n : Nat) (w : World) (b K : Nat) (o : Cmb) : Prop where
  mp : ∃ T, MapV Try.prog 76 w b T ∧ Ents w K T o
  keys : ∀ p ∈ o, p.1 ∈ Tl.plan n
  far : K ≤ b
theorem plan_small {n : Nat} (h1 : 1 ≤ n) (h6 : n ≤ 6) {d : List Nat} (hd : d ∈ Tl.plan n) : d.length = 2 * n ∧ ∀ j, d.getD j 0 ≤ 1000 := by
  have hl := (Tl.unit_r h6 hd).2
  refine ⟨hl, fun j => ?_⟩
  by_cases hj : j < d.length
  · have h4 := (Tl.plan_one h1 h6 hd).1 (d[j]) (List.getElem_mem hj)
    simp only [List.getD, List.getElem?_eq_getElem hj, Option.getD_some]
    exact h4
  · simp only [List.getD, List.getElem?_eq_none (Nat.not_lt.1 hj), Option.getD_none]
    omega
theorem CmB.below {n : Nat} {w w' : World} {b K : Nat} {o : Cmb} (h : CmB n w b K o) (hb : Below w.heap.size w w') : CmB n w' b K o := by
  obtain ⟨T, h1, h2⟩ := h.mp
  exact ⟨⟨T, h1.below hb, h2.map fun v q hq => hq.below hb⟩, h.keys, h.far⟩
theorem CmB.lt {n : Nat} {w : World} {b K : Nat} {o : Cmb} (h : CmB n w b K o) : b < w.heap.size := by
  obtain ⟨T, h1, _⟩ := h.mp
  exact h1.lt
theorem CmB.mono {n : Nat} {w : World} {b K K' : Nat} {o : Cmb} (h : CmB n w b K o) (hk : K' ≤ K) : CmB n w b K' o := by
  obtain ⟨T, h1, h2⟩ := h.mp
  exact ⟨⟨T, h1, h2.map fun v q hq => hq.mono hk⟩, h.keys, Nat.le_trans hk h.far⟩
theorem CmB.set_ {n : Nat} {w : World} {b K g i : Nat} {u : Value} {o : Cmb} (h : CmB n w b K o) (hg : g < K) : CmB n (w.setCell ⟨g, i, none⟩ u) b K o := by
  obtain ⟨T, h1, h2⟩ := h.mp
  exact ⟨⟨T, h1.setCell (by have := h.far; show b ≠ g; omega) u, h2.map fun v q hq => hq.set_ hg⟩, h.keys, h.far⟩
theorem MapV.nocell {P : Program} {k : TypeId} {w : World} {b : Nat} {T : List (Value × Value)} (h : MapV P k w b T) (ad : Addr) (e : ad.block = b) : w.cell? ad = none := by
  obtain ⟨D, ⟨es, clock, hbl, _⟩, _⟩ := h.dict.own
  unfold World.cell?
  rw [e, hbl]
/-- Another block is changed, which holds no part of the sum. -/
theorem CmB.kept {n : Nat} {w w' : World} {b K g : Nat} {o : Cmb} (h : CmB n w b K o) (hg : w.grownBy w' (some g)) (hne : g ≠ b) (hm : ∀ ad : Addr, ad.block = g → w.cell? ad = none) : CmB n w' b K o := by
  obtain ⟨T, h1, h2⟩ := h.mp
  exact ⟨⟨T, h1.kept hg (by intro e; injection e with e; exact hne e.symm), h2.map fun v q hq => hq.kept hg hm⟩, h.keys, h.far⟩
theorem CmB.nocell {n : Nat} {w : World} {b K : Nat} {o : Cmb} (h : CmB n w b K o) (ad : Addr) (e : ad.block = b) : w.cell? ad = none := by
  obtain ⟨T, h1, _⟩ := h.mp
  exact h1.nocell ad e
theorem CmB.made (n : Nat) (w : World) : CmB n (w.alloc (.map #[] 0)) w.heap.size w.heap.size [] := ⟨⟨[], MapV.made w _ _, .nil⟩, fun p hp => (by cases hp), Nat.le_refl _⟩
end Go.Proofs.Ytmeicmhojingfaa
