/- Several texts in one. -/
import Derived.Below
import Derived.Laws.OwnMore
import Derived.Deep.Draws
import Derived.WalkKit
import Derived.Maps.AppendAt
import Derived.Deep.AppendLies
import Derived.Deep.RegionLaw
import Derived.RegionTactic
import Derived.OwnWalk
import Derived.Maps.OwnSet
import Derived.Deep.RegionHeld3
import Derived.Deep.MidRow
import Derived.Great.BuildSlice
import Derived.Laws.EntriesVeiled
import Derived.ProofKit
import Derived.SizedLaws
/- Positive braid words: the monoid, and Garside's lemma (what two first letters of one element have to do with each other). -/
namespace Go.Proofs.Ytoaiblhlpdaeoaa
set_option linter.unusedVariables false
set_option linter.unusedSimpArgs false
namespace Gar

def far (i j : Nat) : Prop := i + 2 ≤ j ∨ j + 2 ≤ i
def nb (i j : Nat) : Prop := i + 1 = j ∨ j + 1 = i
theorem far.symm {i j : Nat} (h : far i j) : far j i := by unfold far at *; omega
theorem nb.symm {i j : Nat} (h : nb i j) : nb j i := by unfold nb at *; omega
theorem tri (i j : Nat) : i = j ∨ far i j ∨ nb i j := by unfold far nb; omega

/-- One exchange of letters. -/
inductive St : List Nat → List Nat → Prop
  | far {i j : Nat} (v : List Nat) (h : far i j) : St (i :: j :: v) (j :: i :: v)
  | nb {i j : Nat} (v : List Nat) (h : nb i j) : St (i :: j :: i :: v) (j :: i :: j :: v)
  | cons (k : Nat) {u v : List Nat} (h : St u v) : St (k :: u) (k :: v)
theorem St.symm {u v : List Nat} (h : St u v) : St v u := by
  induction h with
  | far v h => exact .far v h.symm
  | nb v h => exact .nb v h.symm
  | cons k _ ih => exact .cons k ih
theorem St.length {u v : List Nat} (h : St u v) : u.length = v.length := by
  induction h with
  | far v h => rfl
  | nb v h => rfl
  | cons k _ ih => simp [ih]
theorem St.mem {u v : List Nat} (h : St u v) (x : Nat) : x ∈ u → x ∈ v := by
  induction h with
  | far v h => simp only [List.mem_cons]; grind
  | nb v h => simp only [List.mem_cons]; grind
  | cons k _ ih => simp only [List.mem_cons]; grind
theorem St.app {u v : List Nat} (h : St u v) (w : List Nat) : St (u ++ w) (v ++ w) := by
  induction h with
  | far v h => exact .far (v ++ w) h
  | nb v h => exact .nb (v ++ w) h
  | cons k _ ih => exact .cons k ih
theorem St.pre {u v : List Nat} (h : St u v) : ∀ w : List Nat, St (w ++ u) (w ++ v)
  | [] => h
  | k :: w => .cons k (h.pre w)
theorem St.rev {u v : List Nat} (h : St u v) : St u.reverse v.reverse := by
  induction h with
  | far v h => simpa using St.pre (.far [] h.symm) v.reverse
  | nb v h => simpa using St.pre (.nb [] h) v.reverse
  | cons k _ ih => simpa using ih.app [k]
/-- m exchanges. -/
def Ch : Nat → List Nat → List Nat → Prop
  | 0, u, w => u = w
  | m + 1, u, w => ∃ v, St u v ∧ Ch m v w
theorem Ch.trans : ∀ {m n : Nat} {u v w : List Nat}, Ch m u v → Ch n v w → Ch (m + n) u w
  | 0, n, u, v, w, h, k => by cases h; rwa [Nat.zero_add]
  | m + 1, n, u, v, w, ⟨x, h1, h2⟩, k => by
    rw [Nat.add_right_comm]
    exact ⟨x, h1, h2.trans k⟩
theorem Ch.one {u v : List Nat} (h : St u v) : Ch 1 u v := ⟨v, h, rfl⟩
theorem Ch.symm : ∀ {m : Nat} {u v : List Nat}, Ch m u v → Ch m v u
  | 0, _, _, h => Eq.symm h
  | m + 1, _, _, ⟨x, h1, h2⟩ => h2.symm.trans (Ch.one h1.symm)
theorem Ch.map {f : List Nat → List Nat} (hf : ∀ {u v}, St u v → St (f u) (f v)) : ∀ {m : Nat} {u v : List Nat}, Ch m u v → Ch m (f u) (f v)
  | 0, _, _, h => congrArg f h
  | m + 1, _, _, ⟨x, h1, h2⟩ => ⟨f x, hf h1, h2.map hf⟩
theorem Ch.keep {α : Type} {f : List Nat → α} (hf : ∀ {u v}, St u v → f u = f v) : ∀ {m : Nat} {u v : List Nat}, Ch m u v → f u = f v
  | 0, _, _, h => congrArg f h
  | m + 1, _, _, ⟨x, h1, h2⟩ => (hf h1).trans (h2.keep hf)
instance st : Setoid (List Nat) where
  r u w := ∃ m, Ch m u w
  iseqv := ⟨fun _ => ⟨0, rfl⟩, fun ⟨m, h⟩ => ⟨m, h.symm⟩, fun ⟨_, h⟩ ⟨_, k⟩ => ⟨_, h.trans k⟩⟩
/-- The monoid of positive braids. -/
def M : Type := Quotient st
def mk (u : List Nat) : M := Quotient.mk st u
theorem mk_of (x : M) : ∃ u, x = mk u := by
  induction x using Quotient.inductionOn with
  | _ u => exact ⟨u, rfl⟩
theorem mk_eq {u v : List Nat} (h : ∃ m, Ch m u v) : mk u = mk v := Quotient.sound h
theorem of_mk {u v : List Nat} (h : mk u = mk v) : ∃ m, Ch m u v := Quotient.exact h
/-- A letter before an element. -/
def c (i : Nat) : M → M := Quotient.lift (fun u => mk (i :: u)) fun u v ⟨m, h⟩ => mk_eq ⟨m, h.map (f := fun u => i :: u) (.cons i)⟩
theorem c_mk (i : Nat) (u : List Nat) : c i (mk u) = mk (i :: u) := rfl
def len : M → Nat := Quotient.lift List.length fun u v ⟨m, h⟩ => h.keep St.length
theorem len_mk (u : List Nat) : len (mk u) = u.length := rfl
theorem len_c (i : Nat) (x : M) : len (c i x) = len x + 1 := by
  obtain ⟨u, rfl⟩ := mk_of x
  rfl
theorem c_far {i j : Nat} (h : far i j) (x : M) : c i (c j x) = c j (c i x) := by
  obtain ⟨u, rfl⟩ := mk_of x
  exact mk_eq ⟨1, Ch.one (.far u h)⟩
theorem c_nb {i j : Nat} (h : nb i j) (x : M) : c i (c j (c i x)) = c j (c i (c j x)) := by
  obtain ⟨u, rfl⟩ := mk_of x
  exact mk_eq ⟨1, Ch.one (.nb u h)⟩

/-- What follows when i x = j y. -/
structure Con (i j : Nat) (x y : M) : Prop where
  eq : i = j → x = y
  fr : far i j → ∃ z, x = c j z ∧ y = c i z
  br : nb i j → ∃ z, x = c j (c i z) ∧ y = c i (c j z)
def H (l : Nat) : Prop := ∀ (i j : Nat) (x y : M), len x = l → c i x = c j y → Con i j x y
theorem H.con {l : Nat} (h : ∀ k, k < l → H k) {i j : Nat} {x y : M} (hl : len x < l) (e : c i x = c j y) : Con i j x y := h _ hl i j x y rfl e

theorem con_far {l i k j : Nat} {v y : M} (hl : len v + 1 = l) (IH : ∀ k, k < l → H k) (hik : far i k) (hc : Con k j (c i v) y) : Con i j (c k v) y := by
  have l1 : len v < l := by omega
  rcases tri k j with rfl | hkj | hkj
  · exact ⟨fun e => by subst e; unfold far at hik; omega, fun _ => ⟨v, rfl, (hc.eq rfl).symm⟩, fun h => by unfold far at hik; unfold nb at h; omega⟩
  · obtain ⟨z, e1, e2⟩ := hc.fr hkj
    have c1 := H.con IH l1 e1
    refine ⟨fun e => ?_, fun h => ?_, fun h => ?_⟩
    · rw [c1.eq e, e2]
    · obtain ⟨w, f1, f2⟩ := c1.fr h
      exact ⟨c k w, by rw [f1, c_far hkj], by rw [e2, f2, c_far hik.symm]⟩
    · obtain ⟨w, f1, f2⟩ := c1.br h
      exact ⟨c k w, by rw [f1, c_far hkj, c_far hik.symm], by rw [e2, f2, c_far hik.symm, c_far hkj]⟩
  · obtain ⟨z, e1, e2⟩ := hc.br hkj
    have c1 := H.con IH l1 e1
    have hlz : len v = len z + 1 := by have := congrArg len e1; simp only [len_c] at this; omega
    have l2 : len z < l := by omega
    refine ⟨fun e => by subst e; unfold far at hik; unfold nb at hkj; omega, fun h => ?_, fun h => ?_⟩
    · obtain ⟨w, f1, f2⟩ := c1.fr h
      obtain ⟨u, g1, g2⟩ := (H.con IH l2 f2).fr hik.symm
      exact ⟨c k (c j u), by rw [f1, g2, c_nb hkj], by rw [e2, g1, c_far h.symm, c_far hik.symm]⟩
    · obtain ⟨w, f1, f2⟩ := c1.br h
      obtain ⟨u, g1, g2⟩ := (H.con IH l2 f2).fr hik.symm
      have hlw : len z = len w + 1 := by have := congrArg len f2; simp only [len_c] at this; omega
      obtain ⟨t, q1, q2⟩ := (H.con IH (by omega : len w < l) g2).br hkj.symm
      refine ⟨c k (c j (c i t)), ?_, ?_⟩
      · rw [f1, q1]
        calc c k (c j (c i (c k (c j t)))) = c k (c j (c k (c i (c j t)))) := by rw [c_far hik (c j t)]
          _ = c j (c k (c j (c i (c j t)))) := by rw [c_nb hkj (c i (c j t))]
          _ = c j (c k (c i (c j (c i t)))) := by rw [c_nb h.symm t]
          _ = c j (c i (c k (c j (c i t)))) := by rw [c_far hik.symm (c j (c i t))]
      · rw [e2, g1, q2]
        calc c k (c j (c i (c j (c k t)))) = c k (c i (c j (c i (c k t)))) := by rw [c_nb h.symm (c k t)]
          _ = c k (c i (c j (c k (c i t)))) := by rw [c_far hik t]
          _ = c i (c k (c j (c k (c i t)))) := by rw [c_far hik.symm (c j (c k (c i t)))]
          _ = c i (c j (c k (c j (c i t)))) := by rw [c_nb hkj (c i t)]

theorem con_nb {l i k j : Nat} {v y : M} (hl : len v + 2 = l) (IH : ∀ k, k < l → H k) (hik : nb i k) (hc : Con k j (c i (c k v)) y) : Con i j (c k (c i v)) y := by
  have l2 : len v < l := by omega
  have l1 : len (c k v) < l := by rw [len_c]; omega
  rcases tri k j with rfl | hkj | hkj
  · refine ⟨fun e => by subst e; unfold nb at hik; omega, fun h => by unfold nb at hik; unfold far at h; omega, fun h => ⟨v, rfl, (hc.eq rfl).symm⟩⟩
  · obtain ⟨z, e1, e2⟩ := hc.fr hkj
    have c1 := H.con IH l1 e1
    refine ⟨fun e => by subst e; unfold nb at hik; unfold far at hkj; omega, fun h => ?_, fun h => ?_⟩
    · obtain ⟨w, f1, f2⟩ := c1.fr h
      obtain ⟨u, g1, g2⟩ := (H.con IH l2 f1).fr hkj
      refine ⟨c k (c i u), ?_, ?_⟩
      · rw [g1]
        calc c k (c i (c j u)) = c k (c j (c i u)) := by rw [c_far h u]
          _ = c j (c k (c i u)) := by rw [c_far hkj (c i u)]
      · rw [e2, f2, g2]
        exact c_nb hik.symm u
    · obtain ⟨w, f1, f2⟩ := c1.br h
      obtain ⟨u, g1, g2⟩ := (H.con IH l2 f1).fr hkj
      have hlw : len v = len (c i w) := by have := congrArg len f1; simp only [len_c] at this ⊢; omega
      obtain ⟨t, q1, q2⟩ := (H.con IH (by rw [len_c] at hlw; omega : len w < l) g2).br hik
      refine ⟨c k (c i (c j t)), ?_, ?_⟩
      · rw [g1, q2]
        calc c k (c i (c j (c i (c k t)))) = c k (c j (c i (c j (c k t)))) := by rw [c_nb h (c k t)]
          _ = c j (c k (c i (c j (c k t)))) := by rw [c_far hkj (c i (c j (c k t)))]
          _ = c j (c k (c i (c k (c j t)))) := by rw [c_far hkj.symm t]
          _ = c j (c i (c k (c i (c j t)))) := by rw [c_nb hik.symm (c j t)]
      · rw [e2, f2, q1]
        calc c k (c i (c j (c k (c i t)))) = c k (c i (c k (c j (c i t)))) := by rw [c_far hkj.symm (c i t)]
          _ = c i (c k (c i (c j (c i t)))) := by rw [c_nb hik.symm (c j (c i t))]
          _ = c i (c k (c j (c i (c j t)))) := by rw [c_nb h t]
          _ = c i (c j (c k (c i (c j t)))) := by rw [c_far hkj (c i (c j t))]
  · obtain ⟨z, e1, e2⟩ := hc.br hkj
    have c1 := H.con IH l1 e1
    have hlz : len v = len z := by have := congrArg len e1; simp only [len_c] at this; omega
    refine ⟨fun e => ?_, fun h => ?_, fun h => by unfold nb at hik hkj h; omega⟩
    · subst e
      have f := (H.con IH l2 (c1.eq rfl)).eq rfl
      rw [e2, f]
    · obtain ⟨w, f1, f2⟩ := c1.fr h
      obtain ⟨u, g1, g2⟩ := (H.con IH l2 f1).br hkj
      obtain ⟨u', g1', g2'⟩ := (H.con IH (by omega : len z < l) f2).br hik.symm
      have hlu : len v = len u + 2 := by have := congrArg len g1; simp only [len_c] at this; omega
      have r1 := (H.con IH (by rw [len_c]; omega : len (c j u) < l) (g2.symm.trans g2')).eq rfl
      obtain ⟨t, q1, q2⟩ := (H.con IH (by omega : len u < l) r1).fr h.symm
      refine ⟨c k (c j (c i (c k t))), ?_, ?_⟩
      · rw [g1, q1]
        calc c k (c i (c j (c k (c i t)))) = c k (c j (c i (c k (c i t)))) := by rw [c_far h (c k (c i t))]
          _ = c k (c j (c k (c i (c k t)))) := by rw [c_nb hik t]
          _ = c j (c k (c j (c i (c k t)))) := by rw [c_nb hkj (c i (c k t))]
      · rw [e2, g1', q2]
        calc c k (c j (c i (c k (c j t)))) = c k (c i (c j (c k (c j t)))) := by rw [c_far h.symm (c k (c j t))]
          _ = c k (c i (c k (c j (c k t)))) := by rw [c_nb hkj.symm t]
          _ = c i (c k (c i (c j (c k t)))) := by rw [c_nb hik.symm (c j (c k t))]
          _ = c i (c k (c j (c i (c k t)))) := by rw [c_far h (c k t)]

theorem H.step {l : Nat} (IH : ∀ k, k < l → H k) : ∀ (m : Nat) (i j : Nat) (u w : List Nat), u.length = l → Ch m (i :: u) (j :: w) → Con i j (mk u) (mk w)
  | 0, i, j, u, w, hl, h => by
    have h : i :: u = j :: w := h
    injection h with h1 h2
    subst h1 h2
    exact ⟨fun _ => rfl, fun h => by unfold far at h; omega, fun h => by unfold nb at h; omega⟩
  | m + 1, i, j, u, w, hl, ⟨x, h1, h2⟩ => by
    cases h1 with
    | @far _ k v h =>
      have := H.step IH m k j (i :: v) w (by simpa using hl) h2
      exact con_far (l := l) (v := mk v) (show v.length + 1 = l by simpa using hl) IH h this
    | @nb _ k v h =>
      have := H.step IH m k j (i :: k :: v) w (by simpa using hl) h2
      exact con_nb (l := l) (v := mk v) (show v.length + 2 = l by simpa using hl) IH h this
    | @cons _ _ v h =>
      have h3 := H.step IH m i j v w (by rw [← h.length]; exact hl) h2
      rwa [show mk u = mk v from mk_eq ⟨1, Ch.one h⟩]
theorem H.all (l : Nat) : H l := by
  induction l using Nat.strongRecOn with
  | _ l IH =>
    intro i j x y hx e
    obtain ⟨u, rfl⟩ := mk_of x
    obtain ⟨w, rfl⟩ := mk_of y
    obtain ⟨m, h⟩ := of_mk e
    exact H.step IH m i j u w hx h
/-- Garside's lemma. -/
theorem con {i j : Nat} {x y : M} (e : c i x = c j y) : Con i j x y := H.all _ i j x y rfl e
theorem c_inj {i : Nat} {x y : M} (e : c i x = c i y) : x = y := (con e).eq rfl
end Gar
end Go.Proofs.Ytoaiblhlpdaeoaa
/- Positive braids: products, what is read from behind, least common multiples. -/
namespace Go.Proofs.Ytoaiblhlpdaeoaa
set_option linter.unusedVariables false
set_option linter.unusedSimpArgs false
namespace Gar

theorem Ch.app2 {m n : Nat} {u u' v v' : List Nat} (h : Ch m u u') (k : Ch n v v') : Ch (m + n) (u ++ v) (u' ++ v') :=
  (h.map (f := fun x => x ++ v) (fun s => s.app v)).trans (k.map (f := fun x => u' ++ x) (fun s => s.pre u'))
instance : Mul M := ⟨Quotient.lift₂ (fun u v => mk (u ++ v)) fun u v u' v' ⟨m, h⟩ ⟨n, k⟩ => mk_eq ⟨m + n, h.app2 k⟩⟩
instance : One M := ⟨mk []⟩
/-- The element read from behind. -/
def rev : M → M := Quotient.lift (fun u => mk u.reverse) fun u v ⟨m, h⟩ => mk_eq ⟨m, h.map (f := List.reverse) St.rev⟩
theorem mul_mk (u v : List Nat) : mk u * mk v = mk (u ++ v) := rfl
theorem one_mk : (1 : M) = mk [] := rfl
theorem rev_mk (u : List Nat) : rev (mk u) = mk u.reverse := rfl
theorem mul_assoc (x y z : M) : x * y * z = x * (y * z) := by
  obtain ⟨u, rfl⟩ := mk_of x
  obtain ⟨v, rfl⟩ := mk_of y
  obtain ⟨w, rfl⟩ := mk_of z
  rw [mul_mk, mul_mk, mul_mk, mul_mk, List.append_assoc]
theorem one_mul (x : M) : 1 * x = x := by
  obtain ⟨u, rfl⟩ := mk_of x
  rfl
theorem mul_one (x : M) : x * 1 = x := by
  obtain ⟨u, rfl⟩ := mk_of x
  rw [one_mk, mul_mk, List.append_nil]
theorem c_mul (i : Nat) (x y : M) : c i x * y = c i (x * y) := by
  obtain ⟨u, rfl⟩ := mk_of x
  obtain ⟨v, rfl⟩ := mk_of y
  rfl
theorem len_mul (x y : M) : len (x * y) = len x + len y := by
  obtain ⟨u, rfl⟩ := mk_of x
  obtain ⟨v, rfl⟩ := mk_of y
  rw [mul_mk, len_mk, len_mk, len_mk, List.length_append]
theorem len_one : len 1 = 0 := rfl
theorem len_zero {x : M} (h : len x = 0) : x = 1 := by
  obtain ⟨u, rfl⟩ := mk_of x
  rw [len_mk] at h
  rw [List.eq_nil_of_length_eq_zero h]
  rfl
theorem rev_rev (x : M) : rev (rev x) = x := by
  obtain ⟨u, rfl⟩ := mk_of x
  rw [rev_mk, rev_mk, List.reverse_reverse]
theorem rev_mul (x y : M) : rev (x * y) = rev y * rev x := by
  obtain ⟨u, rfl⟩ := mk_of x
  obtain ⟨v, rfl⟩ := mk_of y
  rw [mul_mk, rev_mk, rev_mk, rev_mk, mul_mk, List.reverse_append]
theorem rev_one : rev 1 = 1 := rfl
theorem len_rev (x : M) : len (rev x) = len x := by
  obtain ⟨u, rfl⟩ := mk_of x
  rw [rev_mk, len_mk, len_mk, List.length_reverse]
/-- One letter. -/
def g (i : Nat) : M := mk [i]
theorem c_g (i : Nat) (x : M) : c i x = g i * x := by
  obtain ⟨u, rfl⟩ := mk_of x
  rfl
theorem rev_g (i : Nat) : rev (g i) = g i := rfl
theorem len_g (i : Nat) : len (g i) = 1 := rfl
theorem c_one (i : Nat) : c i 1 = g i := rfl
theorem cases_c (x : M) : x = 1 ∨ ∃ i y, x = c i y := by
  obtain ⟨u, rfl⟩ := mk_of x
  cases u with
  | nil => exact .inl rfl
  | cons i u => exact .inr ⟨i, mk u, rfl⟩
theorem ind {P : M → Prop} (h1 : P 1) (hc : ∀ i x, P x → P (c i x)) (x : M) : P x := by
  obtain ⟨u, rfl⟩ := mk_of x
  induction u with
  | nil => exact h1
  | cons i u ih => exact hc i _ ih
theorem mul_left {x y z : M} (h : x * y = x * z) : y = z := by
  induction x using ind with
  | h1 => rwa [one_mul, one_mul] at h
  | hc i x ih =>
    rw [c_mul, c_mul] at h
    exact ih (c_inj h)
theorem mul_right {x y z : M} (h : y * x = z * x) : y = z := by
  have h2 := congrArg rev h
  rw [rev_mul, rev_mul] at h2
  have h3 := congrArg rev (mul_left h2)
  rwa [rev_rev, rev_rev] at h3
theorem g_far {i j : Nat} (h : far i j) : g i * g j = g j * g i := c_far h 1
theorem g_nb {i j : Nat} (h : nb i j) : g i * (g j * g i) = g j * (g i * g j) := c_nb h 1
/-- Garside's lemma from behind. -/
theorem con_r {i j : Nat} {x y : M} (e : x * g i = y * g j) : (i = j → x = y) ∧ (far i j → ∃ z, x = z * g j ∧ y = z * g i) ∧ (nb i j → ∃ z, x = z * (g i * g j) ∧ y = z * (g j * g i)) := by
  have e2 := congrArg rev e
  rw [rev_mul, rev_mul, rev_g, rev_g, ← c_g, ← c_g] at e2
  have h := con e2
  refine ⟨fun e => by rw [← rev_rev x, h.eq e, rev_rev], fun f => ?_, fun f => ?_⟩
  · obtain ⟨z, h1, h2⟩ := h.fr f
    exact ⟨rev z, by rw [← rev_rev x, h1, c_g, rev_mul, rev_g], by rw [← rev_rev y, h2, c_g, rev_mul, rev_g]⟩
  · obtain ⟨z, h1, h2⟩ := h.br f
    refine ⟨rev z, ?_, ?_⟩
    · rw [← rev_rev x, h1, c_g, c_g, rev_mul, rev_mul, rev_g, rev_g, mul_assoc]
    · rw [← rev_rev y, h2, c_g, c_g, rev_mul, rev_mul, rev_g, rev_g, mul_assoc]

/-- x is a beginning of m. -/
def dv (x m : M) : Prop := ∃ w, m = x * w
theorem dv.refl (x : M) : dv x x := ⟨1, (mul_one x).symm⟩
theorem dv.trans {x y z : M} (h : dv x y) (k : dv y z) : dv x z := by
  obtain ⟨v, rfl⟩ := h
  obtain ⟨w, rfl⟩ := k
  exact ⟨v * w, mul_assoc _ _ _⟩
theorem dv_one (x : M) : dv 1 x := ⟨x, (one_mul x).symm⟩
theorem dv_mul (x y : M) : dv x (x * y) := ⟨y, rfl⟩
theorem dv_c {i : Nat} {x y : M} : dv (c i x) (c i y) ↔ dv x y := by
  constructor
  · rintro ⟨w, h⟩
    rw [c_mul] at h
    exact ⟨w, c_inj h⟩
  · rintro ⟨w, rfl⟩
    exact ⟨w, by rw [c_mul]⟩
theorem dv_left {z x y : M} : dv (z * x) (z * y) ↔ dv x y := by
  constructor
  · rintro ⟨w, h⟩
    rw [mul_assoc] at h
    exact ⟨w, mul_left h⟩
  · rintro ⟨w, rfl⟩
    exact ⟨w, by rw [mul_assoc]⟩
theorem dv.len {x y : M} (h : dv x y) : Gar.len x ≤ Gar.len y := by
  obtain ⟨w, rfl⟩ := h
  rw [len_mul]
  omega
theorem dv.antisymm {x y : M} (h : dv x y) (k : Gar.len y ≤ Gar.len x) : x = y := by
  obtain ⟨w, rfl⟩ := h
  rw [len_mul] at k
  rw [len_zero (x := w) (by omega), mul_one]
theorem dv_c_inv {i : Nat} {x m : M} (h : dv (c i x) m) : ∃ u, m = c i u ∧ dv x u := by
  obtain ⟨w, rfl⟩ := h
  exact ⟨x * w, c_mul _ _ _, dv_mul _ _⟩
/-- p is the least common multiple. -/
structure Lcm (x y p : M) : Prop where
  l : dv x p
  r : dv y p
  min : ∀ m, dv x m → dv y m → dv p m
theorem Lcm.symm {x y p : M} (h : Lcm x y p) : Lcm y x p := ⟨h.r, h.l, fun m a b => h.min m b a⟩
theorem Lcm.c {i : Nat} {x y p : M} (h : Lcm x y p) : Lcm (Gar.c i x) (Gar.c i y) (Gar.c i p) := ⟨dv_c.2 h.l, dv_c.2 h.r, fun m a b => by
  obtain ⟨u, rfl, h1⟩ := dv_c_inv a
  exact dv_c.2 (h.min u h1 (dv_c.1 b))⟩
/-- Two letters with a common multiple. -/
theorem lcm_g {i j : Nat} {m u v : M} (hu : m = c i u) (hv : m = c j v) : ∃ a b : M, c i a = c j b ∧ dv a u ∧ dv b v ∧ ∀ m', dv (g i) m' → dv (g j) m' → dv (c i a) m' := by
  have key : ∀ {x y m' : M}, dv (g i) m' → dv (g j) m' → ∃ s t, m' = c i s ∧ m' = c j t := fun h k => by
    obtain ⟨s, h1⟩ := h
    obtain ⟨t, h2⟩ := k
    exact ⟨s, t, by rw [h1, c_g], by rw [h2, c_g]⟩
  have e : c i u = c j v := hu.symm.trans hv
  rcases tri i j with rfl | h | h
  · exact ⟨1, 1, rfl, dv_one _, dv_one _, fun m' h k => by rwa [c_one]⟩
  · obtain ⟨z, h1, h2⟩ := (con e).fr h
    refine ⟨g j, g i, c_far h 1, ⟨z, by rw [h1, c_g]⟩, ⟨z, by rw [h2, c_g]⟩, fun m' a b => ?_⟩
    obtain ⟨s, t, e1, e2⟩ := key (x := 1) (y := 1) a b
    obtain ⟨z', f1, _⟩ := (con (e1.symm.trans e2)).fr h
    exact ⟨z', by rw [e1, f1, c_mul, ← c_g]⟩
  · obtain ⟨z, h1, h2⟩ := (con e).br h
    refine ⟨c j (g i), c i (g j), c_nb h 1, ⟨z, by rw [h1, c_mul, ← c_g]⟩, ⟨z, by rw [h2, c_mul, ← c_g]⟩, fun m' a b => ?_⟩
    obtain ⟨s, t, e1, e2⟩ := key (x := 1) (y := 1) a b
    obtain ⟨z', f1, _⟩ := (con (e1.symm.trans e2)).br h
    exact ⟨z', by rw [e1, f1, c_mul, c_mul, ← c_g]⟩
theorem lcm_exists : ∀ (l : Nat) (x y m : M), len m = l → dv x m → dv y m → ∃ p, Lcm x y p := by
  intro l
  induction l using Nat.strongRecOn with
  | _ l IH =>
    intro x y m hl hx hy
    rcases cases_c x with rfl | ⟨i, x', rfl⟩
    · exact ⟨y, dv_one _, dv.refl _, fun m _ h => h⟩
    rcases cases_c y with rfl | ⟨j, y', rfl⟩
    · exact ⟨c i x', dv.refl _, dv_one _, fun m h _ => h⟩
    obtain ⟨u, hu, hxu⟩ := dv_c_inv hx
    obtain ⟨v, hv, hyv⟩ := dv_c_inv hy
    have lu : len u < l := by have := congrArg len hu; rw [len_c] at this; omega
    have lv : len v < l := by have := congrArg len hv; rw [len_c] at this; omega
    obtain ⟨a, b, hab, ha, hb, hmin⟩ := lcm_g hu hv
    obtain ⟨p1, h1⟩ := IH _ lu x' a u rfl hxu ha
    have hp1 : dv (c i p1) m := by rw [hu]; exact dv_c.2 (h1.min u hxu ha)
    have hbp : dv (c j b) (c i p1) := by rw [← hab]; exact dv_c.2 h1.r
    obtain ⟨q, hq, hbq⟩ := dv_c_inv hbp
    have hqv : dv q v := by rw [hq, hv] at hp1; exact dv_c.1 hp1
    obtain ⟨p2, h2⟩ := IH _ lv q y' v rfl hqv hyv
    refine ⟨c j p2, ?_, dv_c.2 h2.r, fun m' k1 k2 => ?_⟩
    · have : dv (c i p1) (c j p2) := by rw [hq]; exact dv_c.2 h2.l
      exact (dv_c.2 h1.l).trans this
    · obtain ⟨u', rfl, k1'⟩ := dv_c_inv k1
      obtain ⟨v', e', k2'⟩ := dv_c_inv k2
      have k3 : dv (c i a) (c i u') := hmin _ ⟨u', c_g _ _⟩ ⟨v', by rw [e', c_g]⟩
      have k4 : dv (c i p1) (c i u') := dv_c.2 (h1.min u' k1' (dv_c.1 k3))
      rw [hq, e'] at k4
      rw [e']
      exact dv_c.2 (h2.min v' (dv_c.1 k4) k2')
theorem lcm {x y m : M} (hx : dv x m) (hy : dv y m) : ∃ p, Lcm x y p := lcm_exists _ x y m rfl hx hy
end Gar
end Go.Proofs.Ytoaiblhlpdaeoaa
/- Simple braids: those in which no two strands cross twice; TITS: they are given by their permutations; the half twist. Letter i exchanges the places i and i + 1 (from 0). -/
namespace Go.Proofs.Ytoaiblhlpdaeoaa
set_option linter.unusedVariables false
set_option linter.unusedSimpArgs false
namespace Gar

def sw (i s : Nat) : Nat := if s = i then i + 1 else if s = i + 1 then i else s
theorem sw_sw (i s : Nat) : sw i (sw i s) = s := by unfold sw; grind
theorem sw_lt {i s n : Nat} (h : i + 1 < n) (hs : s < n) : sw i s < n := by unfold sw; grind
theorem sw_far {i j : Nat} (h : far i j) (s : Nat) : sw i (sw j s) = sw j (sw i s) := by unfold far at h; unfold sw; grind
theorem sw_nb {i j : Nat} (h : nb i j) (s : Nat) : sw i (sw j (sw i s)) = sw j (sw i (sw j s)) := by unfold nb at h; unfold sw; grind
def pmW (u : List Nat) (s : Nat) : Nat := u.foldl (fun t i => sw i t) s
theorem St.pm {u v : List Nat} (h : St u v) : pmW u = pmW v := by
  induction h with
  | far v h => funext s; exact congrArg (pmW v) (sw_far h.symm s)
  | nb v h => funext s; exact congrArg (pmW v) (sw_nb h s)
  | cons k _ ih => funext s; exact congrFun ih _
/-- Where each strand ends. -/
def pm : M → Nat → Nat := Quotient.lift pmW fun u v ⟨m, h⟩ => h.keep St.pm
theorem pm_c (i : Nat) (x : M) (s : Nat) : pm (c i x) s = pm x (sw i s) := by
  obtain ⟨u, rfl⟩ := mk_of x
  rfl
theorem pm_one (s : Nat) : pm 1 s = s := rfl
theorem pm_g (i s : Nat) : pm (g i) s = sw i s := rfl
theorem pm_mul (x y : M) (s : Nat) : pm (x * y) s = pm y (pm x s) := by
  induction x using ind generalizing s with
  | h1 => rw [one_mul, pm_one]
  | hc i x ih => rw [c_mul, pm_c, ih, pm_c]
theorem pm_rev (x : M) (s : Nat) : pm (rev x) (pm x s) = s := by
  induction x using ind generalizing s with
  | h1 => rfl
  | hc i x ih => rw [c_g, rev_mul, rev_g, pm_mul, pm_mul, pm_g, ih, pm_g, sw_sw]
theorem pm_rev' (x : M) (s : Nat) : pm x (pm (rev x) s) = s := by
  have := pm_rev (rev x) s
  rwa [rev_rev] at this
theorem pm_inj {x : M} {s t : Nat} (h : pm x s = pm x t) : s = t := by rw [← pm_rev x s, h, pm_rev]
/-- The letters of x are below n - 1. -/
def memW (u : List Nat) (i : Nat) : Prop := i ∈ u
theorem St.memW {u v : List Nat} (h : St u v) : Gar.memW u = Gar.memW v := funext fun i => propext ⟨h.mem i, h.symm.mem i⟩
def mem : M → Nat → Prop := Quotient.lift memW fun u v ⟨m, h⟩ => h.keep St.memW
theorem mem_mk (u : List Nat) (i : Nat) : mem (mk u) i ↔ i ∈ u := Iff.rfl
def In (n : Nat) (x : M) : Prop := ∀ i, mem x i → i + 1 < n
theorem mem_c {i k : Nat} {x : M} : mem (c i x) k ↔ k = i ∨ mem x k := by
  obtain ⟨u, rfl⟩ := mk_of x
  rw [c_mk, mem_mk, mem_mk, List.mem_cons]
theorem mem_mul {x y : M} {k : Nat} : mem (x * y) k ↔ mem x k ∨ mem y k := by
  obtain ⟨u, rfl⟩ := mk_of x
  obtain ⟨v, rfl⟩ := mk_of y
  rw [mul_mk, mem_mk, mem_mk, mem_mk, List.mem_append]
theorem mem_rev {x : M} {k : Nat} : mem (rev x) k ↔ mem x k := by
  obtain ⟨u, rfl⟩ := mk_of x
  rw [rev_mk, mem_mk, mem_mk, List.mem_reverse]
theorem In_one (n : Nat) : In n 1 := fun i h => by cases h
theorem In_c {n i : Nat} {x : M} : In n (c i x) ↔ i + 1 < n ∧ In n x := by
  unfold In
  constructor
  · intro h
    exact ⟨h i (mem_c.2 (.inl rfl)), fun k hk => h k (mem_c.2 (.inr hk))⟩
  · rintro ⟨h1, h2⟩ k hk
    rcases mem_c.1 hk with rfl | hk
    · exact h1
    · exact h2 k hk
theorem In_mul {n : Nat} {x y : M} : In n (x * y) ↔ In n x ∧ In n y := by
  unfold In
  constructor
  · intro h
    exact ⟨fun k hk => h k (mem_mul.2 (.inl hk)), fun k hk => h k (mem_mul.2 (.inr hk))⟩
  · rintro ⟨h1, h2⟩ k hk
    rcases mem_mul.1 hk with hk | hk
    · exact h1 k hk
    · exact h2 k hk
theorem In_rev {n : Nat} {x : M} : In n (rev x) ↔ In n x := by
  unfold In
  simp only [mem_rev]
theorem In_g {n i : Nat} (h : i + 1 < n) : In n (g i) := by
  rw [← c_one]
  exact In_c.2 ⟨h, In_one n⟩
theorem pm_lt {n : Nat} {x : M} (h : In n x) {s : Nat} (hs : s < n) : pm x s < n := by
  induction x using ind generalizing s with
  | h1 => exact hs
  | hc i x ih =>
    rw [pm_c]
    exact ih (In_c.1 h).2 (sw_lt (In_c.1 h).1 hs)

/-! ### inversions -/
def cnt (f : Nat → Nat) (v : Nat) : Nat → Nat
  | 0 => 0
  | a + 1 => cnt f v a + if v < f a then 1 else 0
def inv (f : Nat → Nat) : Nat → Nat
  | 0 => 0
  | b + 1 => inv f b + cnt f (f b) b
theorem cnt_congr {f h : Nat → Nat} (v : Nat) : ∀ {b : Nat}, (∀ a, a < b → f a = h a) → cnt f v b = cnt h v b
  | 0, _ => rfl
  | b + 1, e => by rw [cnt, cnt, cnt_congr v (b := b) fun a ha => e a (by omega), e b (by omega)]
theorem inv_congr {f h : Nat → Nat} : ∀ {b : Nat}, (∀ a, a < b → f a = h a) → inv f b = inv h b
  | 0, _ => rfl
  | b + 1, e => by rw [inv, inv, inv_congr (b := b) fun a ha => e a (by omega), e b (by omega), cnt_congr _ fun a ha => e a (by omega)]
theorem sw_below {i a : Nat} (h : a < i) : sw i a = a := by unfold sw; grind
theorem sw_above {i a : Nat} (h : i + 1 < a) : sw i a = a := by unfold sw; grind
theorem sw_i (i : Nat) : sw i i = i + 1 := by unfold sw; simp
theorem sw_i1 (i : Nat) : sw i (i + 1) = i := by unfold sw; simp
theorem cnt_sw (f : Nat → Nat) (i v : Nat) : ∀ k, cnt (fun s => f (sw i s)) v (i + 2 + k) = cnt f v (i + 2 + k)
  | 0 => by
    show cnt _ v i + (if v < f (sw i i) then 1 else 0) + (if v < f (sw i (i + 1)) then 1 else 0) = cnt f v i + _ + _
    rw [sw_i, sw_i1, cnt_congr (h := f) v fun a ha => by rw [sw_below ha]]
    omega
  | k + 1 => by
    show cnt _ v (i + 2 + k) + (if v < f (sw i (i + 2 + k)) then 1 else 0) = cnt f v (i + 2 + k) + (if v < f (i + 2 + k) then 1 else 0)
    rw [cnt_sw f i v k, sw_above (by omega)]
theorem inv_sw (f : Nat → Nat) (i : Nat) : ∀ k, inv (fun s => f (sw i s)) (i + 2 + k) + (if f (i + 1) < f i then 1 else 0) = inv f (i + 2 + k) + (if f i < f (i + 1) then 1 else 0)
  | 0 => by
    show inv _ i + cnt _ (f (sw i i)) i + (cnt _ (f (sw i (i + 1))) i + (if f (sw i (i + 1)) < f (sw i i) then 1 else 0)) + _ = inv f i + cnt f (f i) i + (cnt f (f (i + 1)) i + (if f (i + 1) < f i then 1 else 0)) + _
    have q : ∀ v, cnt (fun s => f (sw i s)) v i = cnt f v i := fun v => cnt_congr (h := f) v fun a ha => by rw [sw_below ha]
    rw [sw_i, sw_i1, inv_congr (h := f) fun a ha => by rw [sw_below ha], q, q]
    omega
  | k + 1 => by
    have := inv_sw f i k
    show inv _ (i + 2 + k) + cnt _ (f (sw i (i + 2 + k))) (i + 2 + k) + (if f (i + 1) < f i then 1 else 0) = inv f (i + 2 + k) + cnt f (f (i + 2 + k)) (i + 2 + k) + (if f i < f (i + 1) then 1 else 0)
    rw [cnt_sw, sw_above (by omega)]
    omega
theorem inv_sw' {f : Nat → Nat} {i n : Nat} (h : i + 1 < n) : inv (fun s => f (sw i s)) n + (if f (i + 1) < f i then 1 else 0) = inv f n + (if f i < f (i + 1) then 1 else 0) := by
  have := inv_sw f i (n - (i + 2))
  rwa [show i + 2 + (n - (i + 2)) = n by omega] at this
theorem inv_id : ∀ n, inv (pm 1) n = 0
  | 0 => rfl
  | n + 1 => by
    rw [inv, inv_id n, Nat.zero_add]
    have : ∀ b, b ≤ n → cnt (pm 1) (pm 1 n) b = 0 := fun b => by
      induction b with
      | zero => exact fun _ => rfl
      | succ b ih =>
        intro hb
        rw [cnt, ih (by omega), if_neg (by rw [pm_one, pm_one]; omega)]
    exact this n (Nat.le_refl _)

/-- No two strands cross twice. -/
def Sim (n : Nat) (x : M) : Prop := In n x ∧ len x = inv (pm x) n
theorem inv_le {n : Nat} {x : M} (h : In n x) : inv (pm x) n ≤ len x := by
  induction x using ind with
  | h1 => rw [inv_id]; exact Nat.zero_le _
  | hc i x ih =>
    obtain ⟨h1, h2⟩ := In_c.1 h
    have e := inv_sw' (f := pm x) h1
    have k : inv (pm (c i x)) n = inv (fun s => pm x (sw i s)) n := inv_congr fun s _ => pm_c i x s
    rw [k, len_c]
    have := ih h2
    split at e <;> split at e <;> omega
theorem Sim.one (n : Nat) : Sim n 1 := ⟨In_one n, (inv_id n).symm⟩
theorem Sim_c {n i : Nat} {x : M} : Sim n (c i x) ↔ i + 1 < n ∧ Sim n x ∧ pm x i < pm x (i + 1) := by
  have k : inv (pm (c i x)) n = inv (fun s => pm x (sw i s)) n := inv_congr fun s _ => pm_c i x s
  constructor
  · rintro ⟨h1, h2⟩
    obtain ⟨hi, hx⟩ := In_c.1 h1
    have e := inv_sw' (f := pm x) hi
    have l := inv_le hx
    rw [len_c, k] at h2
    refine ⟨hi, ⟨hx, ?_⟩, ?_⟩
    · split at e <;> split at e <;> omega
    · split at e <;> split at e <;> omega
  · rintro ⟨hi, ⟨hx, hl⟩, ha⟩
    refine ⟨In_c.2 ⟨hi, hx⟩, ?_⟩
    have e := inv_sw' (f := pm x) hi
    rw [if_pos ha, if_neg (by omega)] at e
    rw [len_c, k]
    omega
/-- A descent of the permutation is a first letter. -/
theorem Sim.desc {n : Nat} : ∀ (l : Nat) {x : M} {j : Nat}, len x ≤ l → Sim n x → pm x (j + 1) < pm x j → ∃ z, x = c j z := by
  intro l
  induction l with
  | zero =>
    intro x j hl _ hd
    rw [len_zero (x := x) (by omega), pm_one, pm_one] at hd
    omega
  | succ l ih =>
    intro x j hl hx hd
    rcases cases_c x with rfl | ⟨i, y, rfl⟩
    · rw [pm_one, pm_one] at hd; omega
    rw [len_c] at hl
    obtain ⟨hi, hy, ha⟩ := Sim_c.1 hx
    rw [pm_c, pm_c] at hd
    rcases tri i j with rfl | h | h
    · exact ⟨y, rfl⟩
    · have e1 : sw i j = j := by unfold far at h; unfold sw; grind
      have e2 : sw i (j + 1) = j + 1 := by unfold far at h; unfold sw; grind
      rw [e1, e2] at hd
      obtain ⟨z, rfl⟩ := ih (by omega) hy hd
      exact ⟨c i z, c_far h z⟩
    · rcases h with h | h
      · subst h
        rw [sw_i1, sw_above (by omega)] at hd
        have hd2 : pm y (i + 1 + 1) < pm y (i + 1) := by omega
        obtain ⟨z, rfl⟩ := ih (by omega) hy hd2
        rw [len_c] at hl
        rw [pm_c, pm_c] at hd
        have e1 : sw (i + 1) i = i := sw_below (by omega)
        have e2 : sw (i + 1) (i + 1 + 1) = i + 1 := sw_i1 _
        have e3 : sw (i + 1) (i + 1) = i + 1 + 1 := sw_i _
        rw [e1, e2] at hd
        obtain ⟨t, rfl⟩ := ih (by omega) (Sim_c.1 hy).2.1 hd
        exact ⟨c i (c (i + 1) t), c_nb (.inl rfl) t⟩
      · subst h
        rw [sw_i, sw_below (by omega)] at hd
        have hd2 : pm y (j + 1) < pm y j := by omega
        obtain ⟨z, rfl⟩ := ih (by omega) hy hd2
        rw [len_c] at hl
        rw [pm_c, pm_c] at hd
        have e1 : sw j j = j + 1 := sw_i _
        have e2 : sw j (j + 1 + 1) = j + 1 + 1 := sw_above (by omega)
        rw [e1, e2] at hd
        obtain ⟨t, rfl⟩ := ih (by omega) (Sim_c.1 hy).2.1 hd
        exact ⟨c (j + 1) (c j t), c_nb (.inr rfl) t⟩
theorem Sim.first {n j : Nat} {x : M} (hx : Sim n x) (hd : pm x (j + 1) < pm x j) : ∃ z, x = c j z := hx.desc _ (Nat.le_refl _) hd
/-- TITS. -/
theorem Sim.unique {n : Nat} : ∀ (l : Nat) {x y : M}, len x ≤ l → Sim n x → Sim n y → (∀ s, s < n → pm x s = pm y s) → x = y := by
  intro l
  induction l with
  | zero =>
    intro x y hl hx hy e
    have h1 := len_zero (x := x) (by omega)
    have h2 := hy.2
    rw [← inv_congr e, ← hx.2] at h2
    rw [h1, len_zero (x := y) (by omega)]
  | succ l ih =>
    intro x y hl hx hy e
    rcases cases_c x with rfl | ⟨i, x', rfl⟩
    · have h2 := hy.2
      rw [← inv_congr e, ← hx.2] at h2
      rw [len_zero (x := y) h2]
    obtain ⟨hi, hx', ha⟩ := Sim_c.1 hx
    have hd : pm y (i + 1) < pm y i := by
      rw [← e i (by omega), ← e (i + 1) hi, pm_c, pm_c, sw_i, sw_i1]
      exact ha
    obtain ⟨y', rfl⟩ := hy.first hd
    rw [len_c] at hl
    rw [ih (by omega) hx' (Sim_c.1 hy).2.1 fun s hs => by
      have := e (sw i s) (sw_lt hi hs)
      rwa [pm_c, pm_c, sw_sw] at this]
theorem Sim.ext {n : Nat} {x y : M} (hx : Sim n x) (hy : Sim n y) (e : ∀ s, s < n → pm x s = pm y s) : x = y := Sim.unique _ (Nat.le_refl _) hx hy e
theorem Sim.parts {n : Nat} : ∀ {x y : M}, Sim n (x * y) → Sim n x ∧ Sim n y := by
  intro x
  induction x using ind with
  | h1 => intro y h; rw [one_mul] at h; exact ⟨Sim.one n, h⟩
  | hc i x ih =>
    intro y h
    rw [c_mul] at h
    obtain ⟨hi, hxy, ha⟩ := Sim_c.1 h
    obtain ⟨h1, h2⟩ := ih hxy
    refine ⟨Sim_c.2 ⟨hi, h1, ?_⟩, h2⟩
    rcases Nat.lt_trichotomy (pm x i) (pm x (i + 1)) with q | q | q
    · exact q
    · exact absurd (pm_inj q) (by omega)
    · obtain ⟨z, rfl⟩ := h1.first q
      rw [c_mul, pm_c, pm_c, sw_i, sw_i1] at ha
      rw [c_mul] at hxy
      have := (Sim_c.1 hxy).2.2
      omega
end Gar
end Go.Proofs.Ytoaiblhlpdaeoaa
/- The half twist; simple braids are what divides it; the greatest simple beginning. -/
namespace Go.Proofs.Ytoaiblhlpdaeoaa
set_option linter.unusedVariables false
set_option linter.unusedSimpArgs false
namespace Gar

/-- The strand at place n goes over to place 0. -/
def over : Nat → M
  | 0 => 1
  | n + 1 => c n (over n)
/-- The half twist on n strands. -/
def tw : Nat → M
  | 0 => 1
  | n + 1 => tw n * over n
theorem pm_over : ∀ n s, pm (over n) s = if s < n then s + 1 else if s = n then 0 else s
  | 0, s => by
    rw [over, pm_one]
    split
    · omega
    · split <;> omega
  | n + 1, s => by
    rw [over, pm_c, pm_over n]
    unfold sw
    grind
theorem pm_tw : ∀ n s, pm (tw n) s = if s < n then n - 1 - s else s
  | 0, s => rfl
  | n + 1, s => by
    rw [tw, pm_mul, pm_tw n, pm_over]
    grind
theorem In_over : ∀ n, In (n + 1) (over n)
  | 0 => In_one _
  | n + 1 => In_c.2 ⟨by omega, fun i h => by have := In_over n i h; omega⟩
theorem In.mono {n m : Nat} {x : M} (h : In n x) (k : n ≤ m) : In m x := fun i hi => by have := h i hi; omega
theorem In_tw : ∀ n, In n (tw n)
  | 0 => In_one _
  | n + 1 => In_mul.2 ⟨(In_tw n).mono (by omega), In_over n⟩
theorem Sim.mono {n : Nat} {x : M} (h : Sim n x) : Sim (n + 1) x := by
  induction x using ind with
  | h1 => exact Sim.one _
  | hc i x ih =>
    obtain ⟨h1, h2, h3⟩ := Sim_c.1 h
    exact Sim_c.2 ⟨by omega, ih h2, h3⟩
theorem Sim_over : ∀ n, Sim (n + 1) (over n)
  | 0 => Sim.one _
  | n + 1 => Sim_c.2 ⟨by omega, (Sim_over n).mono, by rw [pm_over, pm_over]; grind⟩
/-- A simple braid of n strands, then the last strand over all. -/
theorem Sim.over {n : Nat} {x : M} (h : Sim n x) : Sim (n + 1) (x * over n) := by
  induction x using ind with
  | h1 => rw [one_mul]; exact Sim_over n
  | hc i x ih =>
    obtain ⟨h1, h2, h3⟩ := Sim_c.1 h
    rw [c_mul]
    refine Sim_c.2 ⟨by omega, ih h2, ?_⟩
    have a := pm_lt h2.1 (s := i) (by omega)
    have b := pm_lt h2.1 (s := i + 1) h1
    rw [pm_mul, pm_mul, pm_over, pm_over, if_pos a, if_pos b]
    omega
theorem Sim_tw : ∀ n, Sim n (tw n)
  | 0 => Sim.one _
  | n + 1 => (Sim_tw n).over
/-- A permutation without ascent is that of the half twist. -/
theorem no_ascent {n : Nat} {x : M} (hx : In n x) (h : ∀ i, i + 1 < n → pm x (i + 1) < pm x i) : ∀ s, s < n → pm x s = n - 1 - s := by
  have up : ∀ k, k < n → pm x k + k ≤ n - 1 := by
    intro k
    induction k with
    | zero => intro hk; have := pm_lt hx hk; omega
    | succ k ih => intro hk; have := h k hk; have := ih (by omega); omega
  have down : ∀ k, k < n → k ≤ pm x (n - 1 - k) := by
    intro k
    induction k with
    | zero => intro _; exact Nat.zero_le _
    | succ k ih =>
      intro hk
      have h1 := ih (by omega)
      have h2 := h (n - 1 - (k + 1)) (by omega)
      rw [show n - 1 - (k + 1) + 1 = n - 1 - k by omega] at h2
      omega
  intro s hs
  have a := up s hs
  have b := down (n - 1 - s) (by omega)
  rw [show n - 1 - (n - 1 - s) = s by omega] at b
  omega
theorem inv_max {n : Nat} (f : Nat → Nat) : inv f n * 2 ≤ n * n := by
  have hc : ∀ v b, cnt f v b ≤ b := fun v b => by
    induction b with
    | zero => exact Nat.le_refl _
    | succ b ih => rw [cnt]; split <;> omega
  induction n with
  | zero => exact Nat.le_refl _
  | succ n ih =>
    rw [inv]
    have := hc (f n) n
    have e : (n + 1) * (n + 1) = n * n + 2 * n + 1 := by rw [Nat.succ_mul, Nat.mul_succ]; omega
    omega
/-- A simple braid ends the half twist. -/
theorem Sim.ends {n : Nat} : ∀ (l : Nat) {x : M}, n * n ≤ len x * 2 + l → Sim n x → ∃ t, tw n = t * x := by
  intro l
  induction l using Nat.strongRecOn with
  | _ l ih =>
    intro x hl hx
    by_cases h : ∀ i, i + 1 < n → pm x (i + 1) < pm x i
    · refine ⟨1, ?_⟩
      rw [one_mul]
      exact (Sim_tw n).ext hx fun s hs => by rw [pm_tw, if_pos hs, no_ascent hx.1 h s hs]
    · have : ∃ i, i + 1 < n ∧ ¬ pm x (i + 1) < pm x i := Classical.byContradiction fun k => h fun i hi => Classical.byContradiction fun q => k ⟨i, hi, q⟩
      obtain ⟨i, hi, hq⟩ := this
      have hne : pm x i ≠ pm x (i + 1) := fun e => absurd (pm_inj e) (by omega)
      have hs : Sim n (c i x) := Sim_c.2 ⟨hi, hx, by omega⟩
      have hm := inv_max (n := n) (pm (c i x))
      rw [← hs.2, len_c] at hm
      obtain ⟨t, ht⟩ := ih (l - 2) (by omega) (by rw [len_c]; omega) hs
      exact ⟨t * g i, by rw [ht, mul_assoc, ← c_g]⟩
theorem rev_tw (n : Nat) : rev (tw n) = tw n := by
  have e : ∀ s, s < n → pm (rev (tw n)) s = pm (tw n) s := fun s hs => by
    have h := pm_rev (tw n) (n - 1 - s)
    rw [pm_tw n (n - 1 - s), if_pos (by omega), show n - 1 - (n - 1 - s) = s by omega] at h
    rw [h, pm_tw, if_pos hs]
  have hs : Sim n (rev (tw n)) := ⟨In_rev.2 (In_tw n), by rw [len_rev, (Sim_tw n).2]; exact (inv_congr e).symm⟩
  exact hs.ext (Sim_tw n) e
theorem Sim.rev {n : Nat} {x : M} (h : Sim n x) : Sim n (Gar.rev x) := by
  obtain ⟨t, ht⟩ := h.ends _ (Nat.le_add_left _ _)
  have := congrArg Gar.rev ht
  rw [rev_tw, rev_mul] at this
  have hs := Sim_tw n
  rw [this] at hs
  exact hs.parts.1
theorem Sim.dv {n : Nat} {x : M} (h : Sim n x) : dv x (tw n) := by
  obtain ⟨t, ht⟩ := h.rev.ends _ (Nat.le_add_left _ _)
  have := congrArg Gar.rev ht
  rw [rev_tw, rev_mul, rev_rev] at this
  exact ⟨_, this⟩
theorem Sim.of_dv {n : Nat} {x y : M} (h : Gar.dv x y) (k : Sim n y) : Sim n x := by
  obtain ⟨w, rfl⟩ := h
  exact k.parts.1
theorem Sim_iff {n : Nat} {x : M} : Sim n x ↔ dv x (tw n) := ⟨Sim.dv, fun h => (Sim_tw n).of_dv h⟩
theorem Sim_g {n i : Nat} (h : i + 1 < n) : Sim n (g i) := by
  rw [← c_one]
  exact Sim_c.2 ⟨h, Sim.one n, by rw [pm_one, pm_one]; omega⟩
/-- A letter behind a simple braid. -/
theorem Sim_r {n i : Nat} {x : M} : Sim n (x * g i) ↔ i + 1 < n ∧ Sim n x ∧ pm (rev x) i < pm (rev x) (i + 1) := by
  have e : rev (x * g i) = c i (rev x) := by rw [rev_mul, rev_g, c_g]
  constructor
  · intro h
    have h2 := h.rev
    rw [e] at h2
    obtain ⟨h3, h4, h5⟩ := Sim_c.1 h2
    have h6 := h4.rev
    rw [rev_rev] at h6
    exact ⟨h3, h6, h5⟩
  · rintro ⟨h1, h2, h3⟩
    have h4 := (Sim_c.2 ⟨h1, h2.rev, h3⟩).rev
    rwa [← e, rev_rev] at h4
/-- Letters before the half twist come behind it, turned. -/
theorem g_tw {n i : Nat} (h : i + 1 < n) : g i * tw n = tw n * g (n - 2 - i) := by
  obtain ⟨y, hy⟩ := (Sim_tw n).first (j := i) (by rw [pm_tw, pm_tw, if_pos h, if_pos (by omega)]; omega)
  have hs := Sim_tw n
  rw [hy] at hs
  have hsy := (Sim_c.1 hs).2.1
  have hp : ∀ s, pm y s = pm (tw n) (sw i s) := fun s => by rw [hy, pm_c, sw_sw]
  have e : y * g (n - 2 - i) = tw n := by
    have he : ∀ s, s < n → pm (y * g (n - 2 - i)) s = pm (tw n) s := fun s hs => by
      rw [pm_mul, pm_g, hp, pm_tw, pm_tw, if_pos hs, if_pos (sw_lt h hs)]
      unfold sw
      grind
    refine Sim.ext ⟨In_mul.2 ⟨hsy.1, In_g (by omega)⟩, ?_⟩ (Sim_tw n) he
    rw [len_mul, len_g, inv_congr he, ← (Sim_tw n).2, hy, len_c]
  conv => lhs; rw [← e, ← mul_assoc, ← c_g, ← hy]
/-- The full twist is central. -/
def full (n : Nat) : M := tw n * tw n
theorem g_full {n i : Nat} (h : i + 1 < n) : g i * full n = full n * g i := by
  unfold full
  rw [← mul_assoc, g_tw h, mul_assoc, g_tw (by omega), ← mul_assoc, show n - 2 - (n - 2 - i) = i by omega]
theorem full_comm {n : Nat} {x : M} (h : In n x) : x * full n = full n * x := by
  induction x using ind with
  | h1 => rw [one_mul, mul_one]
  | hc i x ih =>
    obtain ⟨h1, h2⟩ := In_c.1 h
    rw [c_mul, ih h2, c_g, ← mul_assoc, g_full h1, mul_assoc, ← c_g]
/-- x before the half twist comes behind it as x'. -/
theorem tw_move {n : Nat} {x : M} (h : In n x) : ∃ y, In n y ∧ len y = len x ∧ x * tw n = tw n * y ∧ y * tw n = tw n * x := by
  induction x using ind with
  | h1 => exact ⟨1, In_one n, rfl, by rw [one_mul, mul_one], by rw [one_mul, mul_one]⟩
  | hc i x ih =>
    obtain ⟨h1, h2⟩ := In_c.1 h
    obtain ⟨y, y1, y2, y3, y4⟩ := ih h2
    refine ⟨c (n - 2 - i) y, In_c.2 ⟨by omega, y1⟩, by rw [len_c, len_c, y2], ?_, ?_⟩
    · rw [c_mul, y3, c_g, ← mul_assoc, g_tw h1, mul_assoc, ← c_g]
    · rw [c_mul, y4, c_g, ← mul_assoc, g_tw (by omega), mul_assoc, ← c_g, show n - 2 - (n - 2 - i) = i by omega]
theorem In_dv {n : Nat} {x y : M} (h : dv x y) (k : In n y) : In n x := by
  obtain ⟨w, rfl⟩ := h
  exact (In_mul.1 k).1
/-- What is behind a beginning of a simple braid. -/
theorem Sim.rest {n : Nat} {x y : M} (h : Sim n (x * y)) : Sim n y := h.parts.2

/-! ### the greatest simple beginning -/
structure Alp (n : Nat) (y a : M) : Prop where
  sim : Sim n a
  d : dv a y
  max : ∀ s, Sim n s → dv s y → dv s a
theorem lcm_sim {n : Nat} {x y p : M} (hx : Sim n x) (hy : Sim n y) (h : Lcm x y p) : Sim n p := Sim_iff.2 (h.min _ hx.dv hy.dv)
/-- A simple beginning of x y begins x a, where a is the greatest simple beginning of y. -/
theorem Alp.mul {n : Nat} {y a : M} (h : Alp n y a) : ∀ (x s : M), In n x → Sim n s → dv s (x * y) → dv s (x * a) := by
  intro x
  induction x using ind with
  | h1 =>
    intro s _ hs hd
    rw [one_mul] at hd ⊢
    exact h.max s hs hd
  | hc i x ih =>
    intro s hx hs hd
    obtain ⟨hi, hx2⟩ := In_c.1 hx
    have h1 : dv (g i) (c i x * y) := by rw [c_mul, c_g]; exact dv_mul _ _
    obtain ⟨p, hp⟩ := lcm h1 hd
    have hps := lcm_sim (Sim_g hi) hs hp
    obtain ⟨t, ht⟩ := hp.l
    rw [← c_g] at ht
    rw [ht] at hps
    have ht2 := (Sim_c.1 hps).2.1
    have h2 : dv (c i t) (c i (x * y)) := by rw [← ht, ← c_mul]; exact hp.min _ h1 hd
    have h3 := ih t hx2 ht2 (dv_c.1 h2)
    have h4 : dv (c i t) (c i x * a) := by rw [c_mul]; exact dv_c.2 h3
    rw [← ht] at h4
    exact hp.r.trans h4
/-- A pair is tight: no first letter of the second can go to the end of the first. -/
def Tight (n : Nat) (a b : M) : Prop := ∀ i, i + 1 < n → pm b (i + 1) < pm b i → ¬ pm (rev a) i < pm (rev a) (i + 1)
theorem Tight.alp {n : Nat} {a b : M} (ha : Sim n a) (hb : Sim n b) (h : Tight n a b) : Alp n (a * b) a := by
  refine ⟨ha, dv_mul a b, fun s hs hd => ?_⟩
  obtain ⟨p, hp⟩ := lcm (dv_mul a b) hd
  have hps := lcm_sim ha hs hp
  obtain ⟨t, rfl⟩ := hp.l
  rcases cases_c t with rfl | ⟨j, t', rfl⟩
  · rw [mul_one] at hp; exact hp.r
  · exfalso
    have h1 : dv (c j t') b := dv_left.1 (hp.min _ (dv_mul a b) hd)
    obtain ⟨u, rfl, _⟩ := dv_c_inv h1
    obtain ⟨hj, _, hasc⟩ := Sim_c.1 hb
    refine h j hj (by rw [pm_c, pm_c, sw_i, sw_i1]; exact hasc) ?_
    have h2 : dv (a * g j) (a * c j t') := by rw [dv_left, c_g]; exact dv_mul _ _
    exact (Sim_r.1 (hps.of_dv h2)).2.2
end Gar
end Go.Proofs.Ytoaiblhlpdaeoaa
/- Lists of tight factors: there is just one for each positive braid. -/
namespace Go.Proofs.Ytoaiblhlpdaeoaa
set_option linter.unusedVariables false
set_option linter.unusedSimpArgs false
namespace Gar

def prod : List M → M
  | [] => 1
  | a :: l => a * prod l
theorem prod_append : ∀ a b : List M, prod (a ++ b) = prod a * prod b
  | [], b => (one_mul _).symm
  | x :: a, b => by
    show x * prod (a ++ b) = x * prod a * prod b
    rw [prod_append a b, mul_assoc]
/-- Simple factors, each pair of neighbours tight. -/
def TightL (n : Nat) : List M → Prop
  | [] => True
  | [a] => Sim n a
  | a :: b :: l => Sim n a ∧ Tight n a b ∧ TightL n (b :: l)
theorem TightL.head {n : Nat} {a : M} : ∀ {l : List M}, TightL n (a :: l) → Sim n a
  | [], h => h
  | b :: l, h => h.1
theorem TightL.tail {n : Nat} {a : M} : ∀ {l : List M}, TightL n (a :: l) → TightL n l
  | [], _ => trivial
  | b :: l, h => h.2.2
theorem TightL.cons {n : Nat} {a : M} {l : List M} (ha : Sim n a) (h : ∀ b r, l = b :: r → Tight n a b) (hl : TightL n l) : TightL n (a :: l) := by
  cases l with
  | nil => exact ha
  | cons b r => exact ⟨ha, h b r rfl, hl⟩
theorem TightL.alp {n : Nat} : ∀ {l : List M} {a : M}, TightL n (a :: l) → Alp n (prod (a :: l)) a
  | [], a, h => by
    have e : prod [a] = a := mul_one a
    rw [e]
    exact ⟨h, dv.refl a, fun s _ hd => hd⟩
  | b :: l, a, h => by
    have hb := TightL.alp h.2.2
    refine ⟨h.1, dv_mul _ _, fun s hs hd => ?_⟩
    exact (h.2.1.alp h.1 h.2.2.head).max s hs (hb.mul a s h.1.1 hs hd)
theorem Alp.unique {n : Nat} {y a b : M} (h : Alp n y a) (k : Alp n y b) : a = b := (k.max a h.sim h.d).antisymm (h.max b k.sim k.d).len
theorem TightL.unique {n : Nat} : ∀ {l m : List M}, TightL n l → TightL n m → (∀ a ∈ l, a ≠ 1) → (∀ a ∈ m, a ≠ 1) → prod l = prod m → l = m
  | [], [], _, _, _, _, _ => rfl
  | [], b :: m, _, _, _, h, e => by
    have := congrArg len e
    rw [show prod [] = (1 : M) from rfl, len_one, show prod (b :: m) = b * prod m from rfl, len_mul] at this
    exact absurd (len_zero (by omega)) (h b (by simp))
  | a :: l, [], _, _, h, _, e => by
    have := congrArg len e
    rw [show prod [] = (1 : M) from rfl, len_one, show prod (a :: l) = a * prod l from rfl, len_mul] at this
    exact absurd (len_zero (by omega)) (h a (by simp))
  | a :: l, b :: m, hl, hm, ha, hb, e => by
    have hab : a = b := by
      have := hl.alp
      rw [e] at this
      exact this.unique hm.alp
    subst hab
    rw [hl.tail.unique hm.tail (fun x hx => ha x (by simp [hx])) (fun x hx => hb x (by simp [hx])) (mul_left e)]
theorem tight_tw (n : Nat) (b : M) : Tight n (tw n) b := fun i hi _ h => by
  rw [rev_tw, pm_tw, pm_tw, if_pos (by omega), if_pos hi] at h
  omega
/-- Half twists before tight factors. -/
theorem TightL.twists {n : Nat} {l : List M} (h : TightL n l) : ∀ k, TightL n (List.replicate k (tw n) ++ l)
  | 0 => h
  | k + 1 => by
    rw [List.replicate_succ, List.cons_append]
    exact TightL.cons (Sim_tw n) (fun b _ _ => tight_tw n b) (h.twists k)
theorem repl_unique {α : Type} {a : α} : ∀ {k j : Nat} {l m : List α}, (∀ x ∈ l, x ≠ a) → (∀ x ∈ m, x ≠ a) → List.replicate k a ++ l = List.replicate j a ++ m → k = j ∧ l = m
  | 0, 0, l, m, _, _, e => ⟨rfl, e⟩
  | 0, j + 1, l, m, h, _, e => by
    rw [List.replicate_zero, List.nil_append, List.replicate_succ, List.cons_append] at e
    exact absurd rfl (h a (by rw [e]; simp))
  | k + 1, 0, l, m, _, h, e => by
    rw [List.replicate_zero, List.nil_append, List.replicate_succ, List.cons_append] at e
    exact absurd rfl (h a (by rw [← e]; simp))
  | k + 1, j + 1, l, m, h1, h2, e => by
    rw [List.replicate_succ, List.replicate_succ, List.cons_append, List.cons_append] at e
    injection e with _ e
    obtain ⟨h3, h4⟩ := repl_unique h1 h2 e
    exact ⟨by rw [h3], h4⟩
def pw (x : M) : Nat → M
  | 0 => 1
  | k + 1 => x * pw x k
theorem prod_repl (x : M) : ∀ k, prod (List.replicate k x) = pw x k
  | 0 => rfl
  | k + 1 => by rw [List.replicate_succ, prod, prod_repl x k, pw]
theorem pw_add (x : M) (j : Nat) : ∀ k, pw x (k + j) = pw x k * pw x j
  | 0 => by rw [Nat.zero_add, pw, one_mul]
  | k + 1 => by rw [Nat.add_right_comm, pw, pw_add x j k, pw, mul_assoc]
theorem tw_ne {n : Nat} (h : 2 ≤ n) : tw n ≠ 1 := fun e => by
  have := pm_tw n 0
  rw [e, pm_one, if_pos (by omega)] at this
  omega
/-- Factors without the identity and the half twist. -/
structure NF (n : Nat) (l : List M) : Prop where
  tight : TightL n l
  one : ∀ a ∈ l, a ≠ 1
  tw : ∀ a ∈ l, a ≠ Gar.tw n
theorem NF.unique {n : Nat} (hn : 2 ≤ n) {k j : Nat} {l m : List M} (hl : NF n l) (hm : NF n m) (e : pw (Gar.tw n) k * prod l = pw (Gar.tw n) j * prod m) : k = j ∧ l = m := by
  have e2 : prod (List.replicate k (Gar.tw n) ++ l) = prod (List.replicate j (Gar.tw n) ++ m) := by rw [prod_append, prod_append, prod_repl, prod_repl, e]
  refine repl_unique hl.tw hm.tw ((hl.tight.twists k).unique (hm.tight.twists j) ?_ ?_ e2)
  · intro a ha
    rcases List.mem_append.1 ha with h | h
    · rw [(List.mem_replicate.1 h).2]; exact tw_ne hn
    · exact hl.one a h
  · intro a ha
    rcases List.mem_append.1 ha with h | h
    · rw [(List.mem_replicate.1 h).2]; exact tw_ne hn
    · exact hm.one a h
end Gar
end Go.Proofs.Ytoaiblhlpdaeoaa
/- The braid group, as words up to its relations, and the positive braids within it. -/
namespace Go.Proofs.Ytoaiblhlpdaeoaa
set_option linter.unusedVariables false
set_option linter.unusedSimpArgs false
namespace Gar

/-- A letter on n strands. -/
def okl (n : Nat) (x : Int) : Prop := x ≠ 0 ∧ x.natAbs < n
instance (n : Nat) (x : Int) : Decidable (okl n x) := inferInstanceAs (Decidable (_ ∧ _))
theorem okl.neg {n : Nat} {x : Int} (h : okl n x) : okl n (-x) := by unfold okl at *; omega
/-- The letter of braid words. -/
def up (i : Nat) : Int := (i : Int) + 1
theorem okl_up {n i : Nat} (h : i + 1 < n) : okl n (up i) := by unfold okl up; omega
/-- One step between words; letters that are none on n strands do not count. -/
inductive BS (n : Nat) : List Int → List Int → Prop
  | bad (u v : List Int) {x : Int} (h : ¬ okl n x) : BS n (u ++ x :: v) (u ++ v)
  | can (u v : List Int) {x : Int} (h : okl n x) : BS n (u ++ x :: -x :: v) (u ++ v)
  | far (u v : List Int) {i j : Nat} (h : far i j) (hi : i + 1 < n) (hj : j + 1 < n) : BS n (u ++ up i :: up j :: v) (u ++ up j :: up i :: v)
  | nb (u v : List Int) {i j : Nat} (h : nb i j) (hi : i + 1 < n) (hj : j + 1 < n) : BS n (u ++ up i :: up j :: up i :: v) (u ++ up j :: up i :: up j :: v)
/-- The group. -/
def G (n : Nat) : Type := Quot (BS n)
def gp (n : Nat) (w : List Int) : G n := Quot.mk _ w
theorem gp_of {n : Nat} (x : G n) : ∃ w, x = gp n w := by
  induction x using Quot.inductionOn with
  | _ w => exact ⟨w, rfl⟩
theorem BS.app {n : Nat} {u v : List Int} (h : BS n u v) (w : List Int) : BS n (u ++ w) (v ++ w) := by
  cases h with
  | bad a b h => simpa using BS.bad a (b ++ w) h
  | can a b h => simpa using BS.can a (b ++ w) h
  | far a b h hi hj => simpa using BS.far a (b ++ w) h hi hj
  | nb a b h hi hj => simpa using BS.nb a (b ++ w) h hi hj
theorem BS.pre {n : Nat} {u v : List Int} (h : BS n u v) (w : List Int) : BS n (w ++ u) (w ++ v) := by
  cases h with
  | bad a b h => rw [← List.append_assoc, ← List.append_assoc]; exact BS.bad (w ++ a) b h
  | can a b h => rw [← List.append_assoc, ← List.append_assoc]; exact BS.can (w ++ a) b h
  | far a b h hi hj => rw [← List.append_assoc, ← List.append_assoc]; exact BS.far (w ++ a) b h hi hj
  | nb a b h hi hj => rw [← List.append_assoc, ← List.append_assoc]; exact BS.nb (w ++ a) b h hi hj
/-- The word of the inverse. -/
def iw (w : List Int) : List Int := (w.map fun x => -x).reverse
theorem iw_cons (x : Int) (a : List Int) : iw (x :: a) = iw a ++ [-x] := by simp [iw]
theorem iw_iw (w : List Int) : iw (iw w) = w := by unfold iw; rw [List.map_reverse, List.reverse_reverse, List.map_map]; simp [Function.comp_def]
def mulG {n : Nat} (x y : G n) : G n := Quot.lift (fun u => Quot.lift (fun v => gp n (u ++ v)) (fun v v' h => Quot.sound (h.pre u)) y) (fun u u' h => by
  obtain ⟨v, rfl⟩ := gp_of y
  exact Quot.sound (h.app v)) x
instance {n : Nat} : Mul (G n) := ⟨mulG⟩
instance {n : Nat} : One (G n) := ⟨gp n []⟩
theorem gp_mul {n : Nat} (u v : List Int) : gp n u * gp n v = gp n (u ++ v) := rfl
theorem gp_one {n : Nat} : gp n [] = 1 := rfl
theorem G_assoc {n : Nat} (x y z : G n) : x * y * z = x * (y * z) := by
  obtain ⟨u, rfl⟩ := gp_of x
  obtain ⟨v, rfl⟩ := gp_of y
  obtain ⟨w, rfl⟩ := gp_of z
  rw [gp_mul, gp_mul, gp_mul, gp_mul, List.append_assoc]
theorem G_one_mul {n : Nat} (x : G n) : 1 * x = x := by
  obtain ⟨u, rfl⟩ := gp_of x
  rfl
theorem G_mul_one {n : Nat} (x : G n) : x * 1 = x := by
  obtain ⟨u, rfl⟩ := gp_of x
  rw [← gp_one, gp_mul, List.append_nil]
theorem gp_cons {n : Nat} (x : Int) (u : List Int) : gp n (x :: u) = gp n [x] * gp n u := rfl
theorem gp_bad {n : Nat} {x : Int} (h : ¬ okl n x) : gp n [x] = 1 := Quot.sound (BS.bad [] [] h)
theorem gp_pair (n : Nat) (x : Int) : gp n [x] * gp n [-x] = 1 := by
  by_cases h : okl n x
  · exact Quot.sound (BS.can [] [] h)
  · rw [gp_bad h, gp_bad (x := -x) (fun k => h (by have := k.neg; rwa [Int.neg_neg] at this)), G_one_mul]
theorem gp_iw (n : Nat) : ∀ w : List Int, gp n w * gp n (iw w) = 1
  | [] => rfl
  | x :: w => by
    rw [iw_cons, gp_cons, ← gp_mul, G_assoc, ← G_assoc (gp n w), gp_iw n w, G_one_mul, gp_pair]
theorem gp_iw' (n : Nat) (w : List Int) : gp n (iw w) * gp n w = 1 := by
  have := gp_iw n (iw w)
  rwa [iw_iw] at this
theorem G_cancel {n : Nat} {x y z : G n} (h : x * y = x * z) : y = z := by
  obtain ⟨u, rfl⟩ := gp_of x
  have := congrArg (fun t => gp n (iw u) * t) h
  simp only [← G_assoc, gp_iw', G_one_mul] at this
  exact this
theorem G_cancel_r {n : Nat} {x y z : G n} (h : y * x = z * x) : y = z := by
  obtain ⟨u, rfl⟩ := gp_of x
  have := congrArg (fun t => t * gp n (iw u)) h
  simp only [G_assoc, gp_iw, G_mul_one] at this
  exact this
/-- Inverses, by what they do. -/
theorem iw_step {n : Nat} {u v : List Int} (h : gp n u = gp n v) : gp n (iw u) = gp n (iw v) := by
  refine G_cancel (x := gp n u) ?_
  rw [gp_iw, h, gp_iw]
def invG {n : Nat} (x : G n) : G n := Quot.lift (fun u => gp n (iw u)) (fun u v h => iw_step (Quot.sound h)) x
theorem mul_inv {n : Nat} (x : G n) : x * invG x = 1 := by
  obtain ⟨u, rfl⟩ := gp_of x
  exact gp_iw n u
theorem inv_mul {n : Nat} (x : G n) : invG x * x = 1 := by
  obtain ⟨u, rfl⟩ := gp_of x
  exact gp_iw' n u
/-! ### positive braids in the group -/
def posW (n : Nat) (u : List Nat) : G n := gp n (u.map up)
theorem St.pos {n : Nat} {u v : List Nat} (h : St u v) : (∀ i ∈ u, i + 1 < n) → posW n u = posW n v := by
  induction h with
  | @far i j v h =>
    intro hu
    exact Quot.sound (BS.far [] (v.map up) h (hu i (by simp)) (hu j (by simp)))
  | @nb i j v h =>
    intro hu
    exact Quot.sound (BS.nb [] (v.map up) h (hu i (by simp)) (hu j (by simp)))
  | @cons k u v _ ih =>
    intro hu
    show gp n [up k] * posW n u = gp n [up k] * posW n v
    rw [ih fun i hi => hu i (by simp [hi])]
open Classical in
noncomputable def posC (n : Nat) (u : List Nat) : G n := if ∀ i ∈ u, i + 1 < n then posW n u else 1
theorem St.posC {n : Nat} {u v : List Nat} (h : St u v) : Gar.posC n u = Gar.posC n v := by
  have e : (∀ i ∈ u, i + 1 < n) ↔ ∀ i ∈ v, i + 1 < n := ⟨fun k i hi => k i (h.symm.mem i hi), fun k i hi => k i (h.mem i hi)⟩
  unfold Gar.posC
  by_cases hu : ∀ i ∈ u, i + 1 < n
  · rw [if_pos hu, if_pos (e.1 hu), h.pos hu]
  · rw [if_neg hu, if_neg (fun k => hu (e.2 k))]
noncomputable def pos (n : Nat) : M → G n := Quotient.lift (posC n) fun u v ⟨m, h⟩ => h.keep St.posC
theorem pos_mk {n : Nat} {u : List Nat} (h : ∀ i ∈ u, i + 1 < n) : pos n (mk u) = posW n u := by
  show posC n u = _
  unfold posC
  rw [if_pos h]
theorem pos_one (n : Nat) : pos n 1 = 1 := pos_mk (u := []) (by simp)
theorem pos_c {n i : Nat} {x : M} (hi : i + 1 < n) (hx : In n x) : pos n (c i x) = gp n [up i] * pos n x := by
  obtain ⟨u, rfl⟩ := mk_of x
  rw [c_mk, pos_mk (u := i :: u) (fun k hk => by rcases List.mem_cons.1 hk with rfl | hk; exact hi; exact hx k hk), pos_mk hx]
  rfl
theorem pos_mul {n : Nat} {x y : M} (hx : In n x) (hy : In n y) : pos n (x * y) = pos n x * pos n y := by
  induction x using ind with
  | h1 => rw [one_mul, pos_one, G_one_mul]
  | hc i x ih =>
    obtain ⟨h1, h2⟩ := In_c.1 hx
    rw [c_mul, pos_c h1 (In_mul.2 ⟨h2, hy⟩), ih h2, pos_c h1 h2, G_assoc]
theorem pos_g {n i : Nat} (hi : i + 1 < n) : pos n (g i) = gp n [up i] := by
  rw [← c_one, pos_c hi (In_one n), pos_one, G_mul_one]

/-! ### fractions: the full twist to the power of -k, then a positive braid -/
theorem In_full (n : Nat) : In n (full n) := In_mul.2 ⟨In_tw n, In_tw n⟩
theorem zeta_exists {n i : Nat} (h : i + 1 < n) : ∃ z, In n z ∧ full n = c i z ∧ full n = z * g i := by
  obtain ⟨y, hy⟩ := (Sim_tw n).first (j := i) (by rw [pm_tw, pm_tw, if_pos h, if_pos (by omega)]; omega)
  have hf : full n = c i (y * tw n) := by unfold full; conv => lhs; rw [hy, c_mul, ← hy]
  have hin : In n (y * tw n) := by
    have := In_full n
    rw [hf] at this
    exact (In_c.1 this).2
  refine ⟨y * tw n, hin, hf, ?_⟩
  have h1 := g_full h
  rw [hf, c_mul, ← c_g] at h1
  rw [hf]
  exact c_inj h1
open Classical in
noncomputable def zeta (n i : Nat) : M := if h : i + 1 < n then Classical.choose (zeta_exists h) else 1
theorem zeta_spec {n i : Nat} (h : i + 1 < n) : In n (zeta n i) ∧ full n = c i (zeta n i) ∧ full n = zeta n i * g i := by
  unfold zeta
  rw [dif_pos h]
  exact Classical.choose_spec (zeta_exists h)
/-- A fraction: the power and the positive braid. -/
abbrev Fr (n : Nat) := Nat × {x : M // In n x}
theorem pw_comm {n : Nat} {x : M} (h : In n x) : ∀ k, x * pw (full n) k = pw (full n) k * x
  | 0 => by rw [pw, mul_one, one_mul]
  | k + 1 => by rw [pw, ← mul_assoc, full_comm h, mul_assoc, pw_comm h k, mul_assoc]
theorem In_pw {n : Nat} : ∀ k, In n (pw (full n) k)
  | 0 => In_one n
  | k + 1 => In_mul.2 ⟨In_full n, In_pw k⟩
instance fr (n : Nat) : Setoid (Fr n) where
  r a b := pw (full n) b.1 * a.2.1 = pw (full n) a.1 * b.2.1
  iseqv := ⟨fun _ => rfl, fun h => Eq.symm h, fun {a b d} h k => by
    refine mul_left (x := pw (full n) b.1) ?_
    show pw (full n) b.1 * (pw (full n) d.1 * a.2.1) = pw (full n) b.1 * (pw (full n) a.1 * d.2.1)
    have h : pw (full n) b.1 * a.2.1 = pw (full n) a.1 * b.2.1 := h
    have k : pw (full n) d.1 * b.2.1 = pw (full n) b.1 * d.2.1 := k
    calc pw (full n) b.1 * (pw (full n) d.1 * a.2.1) = pw (full n) d.1 * (pw (full n) b.1 * a.2.1) := by rw [← mul_assoc, pw_comm (In_pw _), mul_assoc]
      _ = pw (full n) a.1 * (pw (full n) d.1 * b.2.1) := by rw [h, ← mul_assoc, pw_comm (In_pw _), mul_assoc]
      _ = pw (full n) b.1 * (pw (full n) a.1 * d.2.1) := by rw [k, ← mul_assoc, pw_comm (In_pw _), mul_assoc]⟩
/-- A letter behind a fraction. -/
noncomputable def stepF (n : Nat) (a : Fr n) (x : Int) : Fr n :=
  if h : okl n x then
    if 0 < x then (a.1, ⟨a.2.1 * g (x.natAbs - 1), In_mul.2 ⟨a.2.2, In_g (by unfold okl at h; omega)⟩⟩)
    else (a.1 + 1, ⟨a.2.1 * zeta n (x.natAbs - 1), In_mul.2 ⟨a.2.2, (zeta_spec (by unfold okl at h; omega)).1⟩⟩)
  else a
theorem stepF_pos {n i : Nat} (hi : i + 1 < n) (a : Fr n) : stepF n a (up i) = (a.1, ⟨a.2.1 * g i, In_mul.2 ⟨a.2.2, In_g hi⟩⟩) := by
  unfold stepF
  rw [dif_pos (okl_up hi), if_pos (by unfold up; omega)]
  have : (up i).natAbs - 1 = i := by unfold up; omega
  congr 2
theorem stepF_neg {n i : Nat} (hi : i + 1 < n) (a : Fr n) : stepF n a (-up i) = (a.1 + 1, ⟨a.2.1 * zeta n i, In_mul.2 ⟨a.2.2, (zeta_spec hi).1⟩⟩) := by
  unfold stepF
  rw [dif_pos (okl_up hi).neg, if_neg (by unfold up; omega)]
  have : (-up i).natAbs - 1 = i := by unfold up; omega
  congr 2
theorem stepF_congr {n : Nat} {a b : Fr n} (h : a ≈ b) (x : Int) : stepF n a x ≈ stepF n b x := by
  have h : pw (full n) b.1 * a.2.1 = pw (full n) a.1 * b.2.1 := h
  unfold stepF
  by_cases hx : okl n x
  · rw [dif_pos hx, dif_pos hx]
    by_cases h0 : 0 < x
    · rw [if_pos h0, if_pos h0]
      show pw (full n) b.1 * (a.2.1 * _) = pw (full n) a.1 * (b.2.1 * _)
      rw [← mul_assoc, h, mul_assoc]
    · rw [if_neg h0, if_neg h0]
      show pw (full n) (b.1 + 1) * (a.2.1 * _) = pw (full n) (a.1 + 1) * (b.2.1 * _)
      rw [pw, pw, mul_assoc, mul_assoc, ← mul_assoc (pw (full n) b.1), h, mul_assoc]
  · rw [dif_neg hx, dif_neg hx]
    exact h
noncomputable def frW (n : Nat) (a : Fr n) (w : List Int) : Fr n := w.foldl (stepF n) a
theorem frW_congr {n : Nat} : ∀ (w : List Int) {a b : Fr n}, a ≈ b → frW n a w ≈ frW n b w
  | [], _, _, h => h
  | x :: w, _, _, h => frW_congr w (stepF_congr h x)
theorem frW_append {n : Nat} (a : Fr n) (u v : List Int) : frW n a (u ++ v) = frW n (frW n a u) v := by unfold frW; rw [List.foldl_append]
theorem letter_of {n : Nat} {x : Int} (h : okl n x) : ∃ i, i + 1 < n ∧ (x = up i ∨ x = -up i) := by
  unfold okl at h
  refine ⟨x.natAbs - 1, by omega, ?_⟩
  unfold up
  omega
theorem BS.fr {n : Nat} {u v : List Int} (h : BS n u v) (a : Fr n) : frW n a u ≈ frW n a v := by
  cases h with
  | bad p q h =>
    rw [frW_append, frW_append]
    refine frW_congr q ?_
    show stepF n _ _ ≈ _
    unfold stepF
    rw [dif_neg h]
    exact Setoid.refl _
  | can p q h =>
    rw [frW_append, frW_append]
    refine frW_congr q ?_
    obtain ⟨i, hi, rfl | rfl⟩ := letter_of h
    · show stepF n (stepF n _ (up i)) (-up i) ≈ _
      rw [stepF_pos hi, stepF_neg hi]
      generalize frW n a p = b
      show pw (full n) b.1 * (b.2.1 * g i * zeta n i) = pw (full n) (b.1 + 1) * b.2.1
      rw [mul_assoc, ← c_g, ← (zeta_spec hi).2.1, full_comm b.2.2, ← mul_assoc, pw, pw_comm (In_full n)]
    · show stepF n (stepF n _ (-up i)) (- -up i) ≈ _
      rw [Int.neg_neg, stepF_neg hi, stepF_pos hi]
      generalize frW n a p = b
      show pw (full n) b.1 * (b.2.1 * zeta n i * g i) = pw (full n) (b.1 + 1) * b.2.1
      rw [mul_assoc, ← (zeta_spec hi).2.2, full_comm b.2.2, ← mul_assoc, pw, pw_comm (In_full n)]
  | @far p q i j h hi hj =>
    rw [frW_append, frW_append]
    refine frW_congr q ?_
    show stepF n (stepF n _ (up i)) (up j) ≈ stepF n (stepF n _ (up j)) (up i)
    rw [stepF_pos hi, stepF_pos hj, stepF_pos hj, stepF_pos hi]
    generalize frW n a p = b
    show pw (full n) b.1 * (b.2.1 * g i * g j) = pw (full n) b.1 * (b.2.1 * g j * g i)
    rw [mul_assoc, g_far h, ← mul_assoc b.2.1]
  | @nb p q i j h hi hj =>
    rw [frW_append, frW_append]
    refine frW_congr q ?_
    show stepF n (stepF n (stepF n _ (up i)) (up j)) (up i) ≈ stepF n (stepF n (stepF n _ (up j)) (up i)) (up j)
    rw [stepF_pos hi, stepF_pos hj, stepF_pos hi, stepF_pos hj, stepF_pos hi, stepF_pos hj]
    generalize frW n a p = b
    show pw (full n) b.1 * (b.2.1 * g i * g j * g i) = pw (full n) b.1 * (b.2.1 * g j * g i * g j)
    rw [mul_assoc, mul_assoc, g_nb h, ← mul_assoc (g j), ← mul_assoc b.2.1, ← mul_assoc b.2.1]
noncomputable def frG (n : Nat) : G n → Quotient (fr n) := Quot.lift (fun w => Quotient.mk _ (frW n (0, ⟨1, In_one n⟩) w)) fun u v h => Quotient.sound (h.fr _)
theorem frW_pos {n : Nat} : ∀ (u : List Nat) (a : Fr n) (hu : ∀ i ∈ u, i + 1 < n), (frW n a (u.map up)).1 = a.1 ∧ (frW n a (u.map up)).2.1 = a.2.1 * mk u
  | [], a, _ => ⟨rfl, (mul_one _).symm⟩
  | i :: u, a, hu => by
    have h := frW_pos u (stepF n a (up i)) fun k hk => hu k (by simp [hk])
    show (frW n (stepF n a (up i)) (u.map up)).1 = a.1 ∧ (frW n (stepF n a (up i)) (u.map up)).2.1 = a.2.1 * mk (i :: u)
    rw [h.1, h.2, stepF_pos (hu i (by simp))]
    exact ⟨rfl, by show a.2.1 * g i * mk u = _; rw [mul_assoc, ← c_g, c_mk]⟩
/-- Positive braids that are equal in the group are equal. -/
theorem pos_inj {n : Nat} {x y : M} (hx : In n x) (hy : In n y) (h : pos n x = pos n y) : x = y := by
  obtain ⟨u, rfl⟩ := mk_of x
  obtain ⟨v, rfl⟩ := mk_of y
  rw [pos_mk hx, pos_mk hy] at h
  have e := Quotient.exact (congrArg (frG n) h)
  have e : pw (full n) _ * _ = pw (full n) _ * _ := e
  have h1 := frW_pos u ((0, ⟨1, In_one n⟩) : Fr n) hx
  have h2 := frW_pos v ((0, ⟨1, In_one n⟩) : Fr n) hy
  rw [h1.1, h1.2, h2.1, h2.2] at e
  simpa [pw, one_mul] using e
end Gar
end Go.Proofs.Ytoaiblhlpdaeoaa
/- Powers of the half twist in the braid group; the normal form of a braid is unique. -/
namespace Go.Proofs.Ytoaiblhlpdaeoaa
set_option linter.unusedVariables false
set_option linter.unusedSimpArgs false
namespace Gar

def npow {n : Nat} (x : G n) : Nat → G n
  | 0 => 1
  | k + 1 => x * npow x k
theorem npow_add {n : Nat} (x : G n) (j : Nat) : ∀ k, npow x (k + j) = npow x k * npow x j
  | 0 => by rw [Nat.zero_add, npow, G_one_mul]
  | k + 1 => by rw [Nat.add_right_comm, npow, npow_add x j k, npow, G_assoc]
theorem npow_comm {n : Nat} (x : G n) (k : Nat) : x * npow x k = npow x k * x := by
  have h := npow_add x 1 k
  rw [show npow x 1 = x from G_mul_one x] at h
  exact h
/-- The half twist. -/
noncomputable def dl (n : Nat) : G n := pos n (tw n)
/-- Its powers. -/
noncomputable def zp (n : Nat) (k : Int) : G n := if 0 ≤ k then npow (dl n) k.toNat else npow (invG (dl n)) (-k).toNat
theorem In_pt {n : Nat} : ∀ k, In n (pw (tw n) k)
  | 0 => In_one n
  | k + 1 => In_mul.2 ⟨In_tw n, In_pt k⟩
theorem npow_dl (n : Nat) : ∀ k, npow (dl n) k = pos n (pw (tw n) k)
  | 0 => (pos_one n).symm
  | k + 1 => by rw [npow, pw, npow_dl n k, pos_mul (In_tw n) (In_pt k)]; rfl
theorem zp_nat (n k : Nat) : zp n (k : Int) = npow (dl n) k := by unfold zp; rw [if_pos (by omega), Int.toNat_natCast]
theorem zp_zero (n : Nat) : zp n 0 = 1 := rfl
theorem zp_succ (n : Nat) (k : Int) : dl n * zp n k = zp n (k + 1) := by
  by_cases h : 0 ≤ k
  · obtain ⟨m, rfl⟩ : ∃ m : Nat, k = (m : Int) := ⟨k.toNat, by omega⟩
    rw [zp_nat, show (m : Int) + 1 = ((m + 1 : Nat) : Int) by omega, zp_nat]
    rfl
  · obtain ⟨m, rfl⟩ : ∃ m : Nat, k = -((m : Int) + 1) := ⟨(-k - 1).toNat, by omega⟩
    have e1 : zp n (-((m : Int) + 1)) = npow (invG (dl n)) (m + 1) := by
      unfold zp
      rw [if_neg (by omega)]
      congr 1
    rw [e1, npow, ← G_assoc, mul_inv, G_one_mul]
    by_cases hm : m = 0
    · subst hm; rfl
    · unfold zp
      rw [if_neg (by omega)]
      congr 1
      omega
theorem zp_add (n : Nat) (k : Int) : ∀ m : Nat, npow (dl n) m * zp n k = zp n (k + m)
  | 0 => by rw [npow, G_one_mul]; congr 1; omega
  | m + 1 => by
    rw [npow, G_assoc, zp_add n k m, zp_succ]
    congr 1
    omega
theorem zp_neg (n : Nat) (m : Nat) : zp n (-(m : Int)) = invG (npow (dl n) m) := by
  refine G_cancel (x := npow (dl n) m) ?_
  rw [zp_add, mul_inv, show -(m : Int) + m = 0 by omega, zp_zero]
theorem In_prod {n : Nat} : ∀ {l : List M}, (∀ a ∈ l, In n a) → In n (prod l)
  | [], _ => In_one n
  | a :: l, h => In_mul.2 ⟨h a (by simp), In_prod fun x hx => h x (by simp [hx])⟩
theorem TightL.sim {n : Nat} : ∀ {l : List M}, TightL n l → ∀ a ∈ l, Sim n a
  | [], _, a, ha => by cases ha
  | b :: l, h, a, ha => by
    rcases List.mem_cons.1 ha with rfl | ha
    · exact h.head
    · exact h.tail.sim a ha
theorem NF.inn {n : Nat} {l : List M} (h : NF n l) : In n (prod l) := In_prod fun a ha => (h.tight.sim a ha).1
/-- The braid of a power and factors. -/
noncomputable def nfv (n : Nat) (k : Int) (l : List M) : G n := zp n k * pos n (prod l)
/-- GARSIDE: there is just one normal form. -/
theorem nf_unique {n : Nat} (hn : 2 ≤ n) {k j : Int} {l m : List M} (hl : NF n l) (hm : NF n m) (e : nfv n k l = nfv n j m) : k = j ∧ l = m := by
  obtain ⟨N, h1, h2⟩ : ∃ N : Nat, 0 ≤ k + N ∧ 0 ≤ j + N := ⟨k.natAbs + j.natAbs, by omega, by omega⟩
  have e2 : npow (dl n) N * nfv n k l = npow (dl n) N * nfv n j m := by rw [e]
  unfold nfv at e2
  rw [← G_assoc, ← G_assoc, zp_add, zp_add] at e2
  obtain ⟨a, ha⟩ : ∃ a : Nat, k + N = (a : Int) := ⟨(k + N).toNat, by omega⟩
  obtain ⟨b, hb⟩ : ∃ b : Nat, j + N = (b : Int) := ⟨(j + N).toNat, by omega⟩
  rw [ha, hb, zp_nat, zp_nat, npow_dl, npow_dl, ← pos_mul (In_pt a) hl.inn, ← pos_mul (In_pt b) hm.inn] at e2
  obtain ⟨h3, h4⟩ := NF.unique hn hl hm (pos_inj (In_mul.2 ⟨In_pt a, hl.inn⟩) (In_mul.2 ⟨In_pt b, hm.inn⟩) e2)
  exact ⟨by omega, h4⟩
/-- The full twist is central. -/
theorem full_G {n : Nat} (x : G n) : zp n 2 * x = x * zp n 2 := by
  have h2 : zp n 2 = pos n (full n) := by
    rw [show (2 : Int) = ((2 : Nat) : Int) from rfl, zp_nat, npow_dl]
    show pos n (tw n * (tw n * 1)) = _
    rw [mul_one]
    rfl
  rw [h2]
  obtain ⟨w, rfl⟩ := gp_of x
  induction w with
  | nil => rw [gp_one, G_one_mul, G_mul_one]
  | cons y w ih =>
    have one : pos n (full n) * gp n [y] = gp n [y] * pos n (full n) := by
      by_cases hy : okl n y
      · obtain ⟨i, hi, rfl | rfl⟩ := letter_of hy
        · rw [← pos_g hi, ← pos_mul (In_full n) (In_g hi), ← pos_mul (In_g hi) (In_full n), g_full hi]
        · have h3 : pos n (full n) * gp n [up i] = gp n [up i] * pos n (full n) := by
            rw [← pos_g hi, ← pos_mul (In_full n) (In_g hi), ← pos_mul (In_g hi) (In_full n), g_full hi]
          refine G_cancel (x := gp n [up i]) (G_cancel_r (x := gp n [up i]) ?_)
          have h4 : gp n [-up i] * gp n [up i] = 1 := by
            have := gp_pair n (-up i)
            rwa [Int.neg_neg] at this
          rw [G_assoc, G_assoc, h4, G_mul_one, ← G_assoc, gp_pair, G_one_mul, h3]
      · rw [gp_bad hy, G_one_mul, G_mul_one]
    rw [gp_cons, ← G_assoc, one, G_assoc, ih, G_assoc]
end Gar
end Go.Proofs.Ytoaiblhlpdaeoaa
/- Plain mathematics on lists: permutations. -/
namespace Go.Proofs.Ytoaiblhlpdaeoaa
set_option linter.unusedVariables false
set_option linter.unusedSimpArgs false

/-- A list of natural numbers as integers. -/
def zs (a : List Nat) : List Int := a.map Int.ofNat
theorem zs_length (a : List Nat) : (zs a).length = a.length := by simp [zs]
theorem zs_getD (a : List Nat) (j : Nat) : (zs a).getD j 0 = ((a.getD j 0 : Nat) : Int) := by
  simp [zs, List.getD]
  cases a[j]? <;> simp
theorem zs_inj {a b : List Nat} (h : zs a = zs b) : a = b := by
  refine List.map_inj_right (f := Int.ofNat) (fun x y hxy => ?_) |>.1 h
  exact Int.ofNat.inj hxy

/-- The errors of Check, element by element. -/
def pfGo (n : Nat) (pre : List Int) : List Int → Int
  | [] => 0
  | x :: r => if x < 0 ∨ (n : Int) ≤ x then 1 else if x ∈ pre then 5 else pfGo n (pre ++ [x]) r
/-- The error of Check. -/
def pf (xs : List Int) : Int := if 9 < xs.length then 2 else pfGo xs.length [] xs

/-- A permutation. -/
def isP (a : List Nat) : Prop := (∀ x ∈ a, x < a.length) ∧ a.Nodup

theorem pfGo_zero (n : Nat) (pre xs : List Int) : pfGo n pre xs = 0 ↔ (∀ x ∈ xs, 0 ≤ x ∧ x < n) ∧ xs.Nodup ∧ (∀ x ∈ xs, x ∉ pre) := by
  induction xs generalizing pre with
  | nil => simp [pfGo]
  | cons x r ih =>
    rw [pfGo]
    by_cases h1 : x < 0 ∨ (n : Int) ≤ x
    · rw [if_pos h1]
      constructor
      · intro h; cases h
      · rintro ⟨h, _⟩
        have := h x (by simp)
        omega
    · rw [if_neg h1]
      by_cases h2 : x ∈ pre
      · rw [if_pos h2]
        constructor
        · intro h; cases h
        · rintro ⟨_, _, h⟩
          exact absurd h2 (h x (by simp))
      · rw [if_neg h2, ih]
        constructor
        · rintro ⟨a, b, c⟩
          refine ⟨?_, ?_, ?_⟩
          · intro y hy
            rcases List.mem_cons.1 hy with rfl | hy
            · omega
            · exact a y hy
          · rw [List.nodup_cons]
            refine ⟨fun hx => ?_, b⟩
            have := c x hx
            simp at this
          · intro y hy
            rcases List.mem_cons.1 hy with rfl | hy
            · exact h2
            · have := c y hy
              simp at this
              exact this.1
        · rintro ⟨a, b, c⟩
          rw [List.nodup_cons] at b
          refine ⟨fun y hy => a y (by simp [hy]), b.2, fun y hy => ?_⟩
          simp only [List.mem_append, List.mem_singleton, not_or]
          refine ⟨c y (by simp [hy]), ?_⟩
          rintro rfl
          exact b.1 hy

theorem pf_zero (xs : List Int) : pf xs = 0 ↔ xs.length ≤ 9 ∧ ∃ a, xs = zs a ∧ isP a := by
  unfold pf
  by_cases h : 9 < xs.length
  · rw [if_pos h]
    constructor
    · intro h; cases h
    · rintro ⟨h1, _⟩; omega
  · rw [if_neg h, pfGo_zero]
    constructor
    · rintro ⟨h1, h2, _⟩
      have e : xs = zs (xs.map Int.toNat) := by
        unfold zs
        rw [List.map_map]
        conv => lhs; rw [← List.map_id xs]
        apply List.map_congr_left
        intro x hx
        have := h1 x hx
        simp
        omega
      refine ⟨by omega, xs.map Int.toNat, e, ?_, ?_⟩
      · intro x hx
        obtain ⟨y, hy, rfl⟩ := List.mem_map.1 hx
        have := h1 y hy
        simp
        omega
      · rw [e] at h2
        unfold zs at h2
        exact List.Pairwise.of_map (S := fun a b => a ≠ b) Int.ofNat (fun a b hab => by intro h; subst h; exact hab rfl) h2
    · rintro ⟨h1, a, rfl, h3, h4⟩
      refine ⟨?_, ?_, by simp⟩
      · intro x hx
        obtain ⟨y, hy, rfl⟩ := List.mem_map.1 hx
        have := h3 y hy
        rw [zs_length]
        simp
        exact this
      · unfold zs
        exact List.Pairwise.map (S := fun a b => a ≠ b) Int.ofNat (fun a b hab => by intro h; exact hab (Int.ofNat.inj h)) h4

theorem pf_step {xs : List Int} {k : Nat} (hk : k < xs.length) :
    pfGo xs.length (xs.take k) (xs.drop k) = if xs.getD k 0 < 0 ∨ (xs.length : Int) ≤ xs.getD k 0 then 1 else if xs.getD k 0 ∈ xs.take k then 5 else pfGo xs.length (xs.take (k + 1)) (xs.drop (k + 1)) := by
  rw [List.drop_eq_getElem_cons hk, pfGo]
  have e : xs.getD k 0 = xs[k] := by simp [List.getD, List.getElem?_eq_getElem hk]
  rw [e, List.take_succ_eq_append_getElem hk]
theorem pf_end (xs : List Int) (n : Nat) (k : Nat) (hk : xs.length ≤ k) (pre : List Int) : pfGo n pre (xs.drop k) = 0 := by
  rw [List.drop_eq_nil_of_le hk]; rfl
/-- First a, then b. -/
def comp (a b : List Nat) : List Nat := a.map fun x => b.getD x 0
theorem comp_length (a b : List Nat) : (comp a b).length = a.length := by simp [comp]

theorem getD_map_nat {a : List Nat} {f : Nat → Nat} {j : Nat} (hj : j < a.length) : (a.map f).getD j 0 = f (a.getD j 0) := by
  simp [List.getD, List.getElem?_eq_getElem hj]
theorem comp_getD {a b : List Nat} {j : Nat} (hj : j < a.length) : (comp a b).getD j 0 = b.getD (a.getD j 0) 0 := getD_map_nat hj

/-- A list that is filled from the left: of n elements k are there. -/
def fillN (f : Nat → Int) (n k : Nat) : List Int := (List.range n).map fun j => if j < k then f j else 0
theorem fillN_zero (f : Nat → Int) (n : Nat) : fillN f n 0 = List.replicate n 0 := by
  apply List.ext_getElem?
  intro i
  by_cases hi : i < n <;> simp [fillN, hi]
theorem fillN_set (f : Nat → Int) (n k : Nat) : (fillN f n k).set k (f k) = fillN f n (k + 1) := by
  apply List.ext_getElem?
  intro i
  by_cases hi : i < n
  · by_cases hik : k = i
    · subst hik; simp [fillN, hi]
    · simp only [fillN, List.getElem?_set, hik, if_false, List.getElem?_map, List.getElem?_range hi, Option.map_some]
      by_cases h1 : i < k
      · rw [if_pos h1, if_pos (by omega)]
      · rw [if_neg h1, if_neg (by omega)]
  · rw [List.getElem?_eq_none (by simp [fillN]; omega), List.getElem?_eq_none (by simp [fillN]; omega)]
theorem fillN_full {f : Nat → Int} {n : Nat} {xs : List Int} (hl : xs.length = n) (h : ∀ j, j < n → f j = xs.getD j 0) : fillN f n n = xs := by
  apply List.ext_getElem?
  intro i
  by_cases hi : i < n
  · have h2 := h i hi
    simp [fillN, hi, h2, List.getD, List.getElem?_eq_getElem (show i < xs.length by omega)]
  · rw [List.getElem?_eq_none (by simp [fillN]; omega), List.getElem?_eq_none (by omega)]

theorem isP.pf {a : List Nat} (h : isP a) (h9 : a.length ≤ 9) : pf (zs a) = 0 := (pf_zero _).2 ⟨by rw [zs_length]; exact h9, a, rfl, h⟩

theorem nodup_length_le : ∀ (n : Nat) (l : List Nat), l.Nodup → (∀ x ∈ l, x < n) → l.length ≤ n := by
  intro n
  induction n with
  | zero =>
    intro l _ h
    rcases l with _ | ⟨x, r⟩
    · simp
    · exact absurd (h x (by simp)) (by omega)
  | succ n ih =>
    intro l hn h
    by_cases hm : n ∈ l
    · have h1 := ih (l.erase n) (hn.erase n) (fun x hx => by
        rw [hn.mem_erase_iff] at hx
        have := h x hx.2
        omega)
      rw [List.length_erase_of_mem hm] at h1
      omega
    · have h1 := ih l hn (fun x hx => by
        have := h x hx
        have : x ≠ n := fun e => hm (e ▸ hx)
        omega)
      omega

theorem isP.mem {a : List Nat} (h : isP a) {i : Nat} (hi : i < a.length) : i ∈ a := by
  apply Classical.byContradiction
  intro hm
  have := nodup_length_le a.length (i :: a) (by rw [List.nodup_cons]; exact ⟨hm, h.2⟩) (fun x hx => by
    rcases List.mem_cons.1 hx with rfl | hx
    · exact hi
    · exact h.1 x hx)
  simp at this
  omega
theorem getD_eq {a : List Nat} {j : Nat} (hj : j < a.length) : a.getD j 0 = a[j] := by
  simp [List.getD, List.getElem?_eq_getElem hj]
theorem getD_mem {a : List Nat} {j : Nat} (hj : j < a.length) : a.getD j 0 ∈ a := by
  simp [List.getD, List.getElem?_eq_getElem hj]
theorem isP.lt {a : List Nat} (h : isP a) {j : Nat} (hj : j < a.length) : a.getD j 0 < a.length := h.1 _ (getD_mem hj)
theorem isP.inj {a : List Nat} (h : isP a) {i j : Nat} (hi : i < a.length) (hj : j < a.length) (he : a.getD i 0 = a.getD j 0) : i = j := by
  have h2 := h.2
  simp [List.getD, List.getElem?_eq_getElem hi, List.getElem?_eq_getElem hj] at he
  exact (List.getElem_inj h2).1 he
theorem isP.surj {a : List Nat} (h : isP a) {i : Nat} (hi : i < a.length) : ∃ j, j < a.length ∧ a.getD j 0 = i := by
  obtain ⟨j, hj, he⟩ := List.mem_iff_getElem.1 (h.mem hi)
  exact ⟨j, hj, by simp [List.getD, List.getElem?_eq_getElem hj, he]⟩
theorem isP_of {a : List Nat} (h1 : ∀ j, j < a.length → a.getD j 0 < a.length) (h2 : ∀ i j, i < a.length → j < a.length → a.getD i 0 = a.getD j 0 → i = j) : isP a := by
  constructor
  · intro x hx
    obtain ⟨j, hj, he⟩ := List.mem_iff_getElem.1 hx
    have := h1 j hj
    simp [List.getD, List.getElem?_eq_getElem hj, he] at this
    exact this
  · rw [List.nodup_iff_pairwise_ne, List.pairwise_iff_getElem]
    intro i j hi hj hij he
    have := h2 i j hi hj (by simp [List.getD, List.getElem?_eq_getElem hi, List.getElem?_eq_getElem hj, he])
    omega
theorem list_ext_getD {a b : List Nat} (hl : a.length = b.length) (h : ∀ j, j < a.length → a.getD j 0 = b.getD j 0) : a = b := by
  apply List.ext_getElem hl
  intro i h1 h2
  have := h i h1
  simpa [List.getD, List.getElem?_eq_getElem h1, List.getElem?_eq_getElem h2] using this

/-- The inverse. -/
def inv (a : List Nat) : List Nat := (List.range a.length).map fun i => a.idxOf i
theorem inv_length (a : List Nat) : (inv a).length = a.length := by simp [inv]
theorem inv_getD_self {a : List Nat} (h : isP a) {j : Nat} (hj : j < a.length) : (inv a).getD (a.getD j 0) 0 = j := by
  have hl := h.lt hj
  have e : (inv a).getD (a.getD j 0) 0 = a.idxOf (a.getD j 0) := by
    simp [inv, List.getD, hl, List.getElem?_eq_getElem hj] at hl ⊢
    simp [hl]
  rw [e]
  have h1 : a.idxOf (a.getD j 0) < a.length := List.idxOf_lt_length_iff.2 (getD_mem hj)
  refine h.inj h1 hj ?_
  have : a[a.idxOf (a.getD j 0)]'h1 = a.getD j 0 := List.getElem_idxOf h1
  rw [show a.getD (a.idxOf (a.getD j 0)) 0 = a[a.idxOf (a.getD j 0)]'h1 from getD_eq h1]
  exact this
/-- Whoever undoes a is the inverse. -/
theorem inv_unique {a : List Nat} (h : isP a) {ps : List Int} (hl : ps.length = a.length) (hp : ∀ j, j < a.length → ps.getD (a.getD j 0) 0 = (j : Int)) : ps = zs (inv a) := by
  apply List.ext_getElem (by rw [hl, zs_length, inv_length])
  intro i h1 h2
  obtain ⟨j, hj, he⟩ := h.surj (i := i) (by omega)
  have e1 := hp j hj
  have e2 := inv_getD_self h hj
  rw [he] at e1 e2
  have e3 := zs_getD (inv a) i
  rw [e2] at e3
  simp only [List.getD, List.getElem?_eq_getElem h1, List.getElem?_eq_getElem h2, Option.getD_some] at e1 e3
  rw [e1, e3]

theorem comp_isP {a b : List Nat} (ha : isP a) (hb : isP b) (hl : a.length = b.length) : isP (comp a b) := by
  refine isP_of ?_ ?_
  · intro j hj
    rw [comp_length] at hj ⊢
    rw [comp_getD hj, hl]
    exact hb.lt (by rw [← hl]; exact ha.lt hj)
  · intro i j hi hj he
    rw [comp_length] at hi hj
    rw [comp_getD hi, comp_getD hj] at he
    exact ha.inj hi hj (hb.inj (by rw [← hl]; exact ha.lt hi) (by rw [← hl]; exact ha.lt hj) he)
theorem inv_isP {a : List Nat} (ha : isP a) : isP (inv a) := by
  refine isP_of ?_ ?_
  · intro i hi
    rw [inv_length] at hi ⊢
    obtain ⟨j, hj, rfl⟩ := ha.surj hi
    rw [inv_getD_self ha hj]
    exact hj
  · intro i k hi hk he
    rw [inv_length] at hi hk
    obtain ⟨j, hj, rfl⟩ := ha.surj hi
    obtain ⟨l, hl, rfl⟩ := ha.surj hk
    rw [inv_getD_self ha hj, inv_getD_self ha hl] at he
    rw [he]
theorem range_getD {n j : Nat} (hj : j < n) : (List.range n).getD j 0 = j := by simp [List.getD, hj]
theorem comp_inv {a : List Nat} (ha : isP a) : comp a (inv a) = List.range a.length := by
  refine list_ext_getD (by simp [comp_length]) ?_
  intro j hj
  rw [comp_length] at hj
  rw [comp_getD hj, inv_getD_self ha hj, range_getD hj]
end Go.Proofs.Ytoaiblhlpdaeoaa
/- Permutations as lists and their words; lists of factors. -/
namespace Go.Proofs.Ytoaiblhlpdaeoaa
set_option linter.unusedVariables false
set_option linter.unusedSimpArgs false
namespace Gar

/-- The elements i and i + 1 exchanged. -/
def swapL (p : List Nat) (i : Nat) : List Nat := (p.set i (p.getD (i + 1) 0)).set (i + 1) (p.getD i 0)
theorem swapL_length (p : List Nat) (i : Nat) : (swapL p i).length = p.length := by simp [swapL]
theorem swapL_getD {p : List Nat} {i s : Nat} (hi : i + 1 < p.length) : (swapL p i).getD s 0 = p.getD (sw i s) 0 := by
  unfold swapL sw
  simp only [List.getD, List.getElem?_set, List.length_set]
  by_cases h1 : s = i
  · subst h1
    simp [show s < p.length by omega, hi]
  · by_cases h2 : s = i + 1
    · subst h2
      simp [hi]
    · rw [if_neg (fun h => h2 h.symm), if_neg (fun h => h1 h.symm), if_neg h1, if_neg h2]
theorem swapL_isP {p : List Nat} {i : Nat} (h : isP p) (hi : i + 1 < p.length) : isP (swapL p i) := by
  refine isP_of (fun j hj => ?_) (fun a b ha hb e => ?_)
  · rw [swapL_length] at hj ⊢
    rw [swapL_getD hi]
    exact h.lt (sw_lt hi hj)
  · rw [swapL_length] at ha hb
    rw [swapL_getD hi, swapL_getD hi] at e
    have := h.inj (sw_lt hi ha) (sw_lt hi hb) e
    rw [← sw_sw i a, this, sw_sw]
/-- The first place where an element is greater than the next one. -/
def firstD (p : List Nat) : Option Nat := (List.range (p.length - 1)).find? fun i => decide (p.getD (i + 1) 0 < p.getD i 0)
def spl : Nat → List Nat → List Nat
  | 0, _ => []
  | f + 1, p => match firstD p with
    | none => []
    | some i => i :: spl f (swapL p i)
theorem firstD_some {p : List Nat} {i : Nat} (h : firstD p = some i) : i + 1 < p.length ∧ p.getD (i + 1) 0 < p.getD i 0 := by
  have h1 := List.find?_some h
  have h2 := List.mem_of_find?_eq_some h
  rw [List.mem_range] at h2
  exact ⟨by omega, of_decide_eq_true h1⟩
theorem firstD_none {p : List Nat} (h : firstD p = none) {i : Nat} (hi : i + 1 < p.length) : p.getD i 0 ≤ p.getD (i + 1) 0 := by
  have h1 := List.find?_eq_none.1 h i (List.mem_range.2 (by omega))
  simp only [decide_eq_true_eq] at h1
  omega
theorem sorted_id {p : List Nat} (hp : isP p) (h : ∀ i, i + 1 < p.length → p.getD i 0 ≤ p.getD (i + 1) 0) : ∀ s, s < p.length → p.getD s 0 = s := by
  have hs : ∀ i, i + 1 < p.length → p.getD i 0 < p.getD (i + 1) 0 := fun i hi => by
    have h1 := h i hi
    have h2 : p.getD i 0 ≠ p.getD (i + 1) 0 := fun e => by have := hp.inj (by omega) hi e; omega
    omega
  have up : ∀ k, k < p.length → k ≤ p.getD k 0 := by
    intro k
    induction k with
    | zero => intro _; exact Nat.zero_le _
    | succ k ih => intro hk; have := hs k hk; have := ih (by omega); omega
  have down : ∀ k, k < p.length → p.getD (p.length - 1 - k) 0 + k ≤ p.length - 1 := by
    intro k
    induction k with
    | zero => intro hk; have := hp.lt (j := p.length - 1 - 0) (by omega); omega
    | succ k ih =>
      intro hk
      have h1 := ih (by omega)
      have h2 := hs (p.length - 1 - (k + 1)) (by omega)
      rw [show p.length - 1 - (k + 1) + 1 = p.length - 1 - k by omega] at h2
      omega
  intro s hs2
  have a := up s hs2
  have b := down (p.length - 1 - s) (by omega)
  rw [show p.length - 1 - (p.length - 1 - s) = s by omega] at b
  omega
/-- The word of a permutation: simple, with this permutation. -/
theorem spl_spec {n : Nat} : ∀ (f : Nat) {p : List Nat}, isP p → p.length = n → inv (fun s => p.getD s 0) n ≤ f → Sim n (mk (spl f p)) ∧ ∀ s, s < n → pm (mk (spl f p)) s = p.getD s 0
  | f, p, hp, hl, hf => by
    cases hd : firstD p with
    | none =>
      have hid := sorted_id hp fun i hi => firstD_none hd hi
      have e : spl f p = [] := by
        cases f with
        | zero => rfl
        | succ f => unfold spl; rw [hd]
      rw [e]
      exact ⟨Sim.one n, fun s hs => (hid s (by omega)).symm⟩
    | some i =>
      obtain ⟨h1, h2⟩ := firstD_some hd
      have hinv := inv_sw' (f := fun s => p.getD s 0) (i := i) (n := n) (by omega)
      rw [if_pos h2, if_neg (by omega)] at hinv
      have e2 : inv (fun s => (swapL p i).getD s 0) n = inv (fun s => p.getD (sw i s) 0) n := inv_congr fun s _ => swapL_getD h1
      cases f with
      | zero => omega
      | succ f =>
        obtain ⟨k1, k2⟩ := spl_spec f (swapL_isP hp h1) (by rw [swapL_length, hl]) (by rw [e2]; omega)
        have e3 : spl (f + 1) p = i :: spl f (swapL p i) := by
          conv => lhs; unfold spl
          rw [hd]
        rw [e3, ← c_mk]
        refine ⟨Sim_c.2 ⟨by omega, k1, ?_⟩, fun s hs => ?_⟩
        · rw [k2 i (by omega), k2 (i + 1) (by omega), swapL_getD h1, swapL_getD h1, sw_i, sw_i1]
          exact h2
        · rw [pm_c, k2 _ (sw_lt (by omega) hs), swapL_getD h1, sw_sw]
/-- The permutation braid. -/
def elt (p : List Nat) : M := mk (spl (p.length * p.length) p)
theorem elt_spec {n : Nat} {p : List Nat} (hp : isP p) (hl : p.length = n) : Sim n (elt p) ∧ ∀ s, s < n → pm (elt p) s = p.getD s 0 := by
  refine spl_spec _ hp hl ?_
  have := inv_max (n := n) (fun s => p.getD s 0)
  rw [hl]
  omega
theorem list_ext {p q : List Nat} (hl : p.length = q.length) (h : ∀ s, s < p.length → p.getD s 0 = q.getD s 0) : p = q :=
  List.ext_getElem hl fun s h1 h2 => by
    have := h s h1
    simpa [List.getD, h1, h2] using this
theorem elt_inj {n : Nat} {p q : List Nat} (hp : isP p) (hq : isP q) (lp : p.length = n) (lq : q.length = n) (e : elt p = elt q) : p = q :=
  list_ext (by omega) fun s hs => by
    rw [← (elt_spec hp lp).2 s (by omega), e, (elt_spec hq lq).2 s (by omega)]
/-- The permutation of the half twist. -/
def fullL (n : Nat) : List Nat := (List.range n).reverse
theorem fullL_getD {n s : Nat} (h : s < n) : (fullL n).getD s 0 = n - 1 - s := by
  unfold fullL
  simp [List.getD, List.getElem?_reverse, h]
theorem elt_full {n : Nat} {p : List Nat} (hp : isP p) (hl : p.length = n) : elt p = tw n ↔ p = fullL n := by
  obtain ⟨h1, h2⟩ := elt_spec hp hl
  constructor
  · intro e
    refine list_ext (by simp [fullL, hl]) fun s hs => ?_
    rw [← h2 s (by omega), e, pm_tw, if_pos (by omega), fullL_getD (by omega)]
  · intro e
    refine h1.ext (Sim_tw n) fun s hs => ?_
    rw [h2 s hs, e, pm_tw, if_pos hs, fullL_getD hs]
theorem elt_one {n : Nat} {p : List Nat} (hp : isP p) (hl : p.length = n) : elt p = 1 ↔ p = List.range n := by
  obtain ⟨h1, h2⟩ := elt_spec hp hl
  constructor
  · intro e
    refine list_ext (by simp [hl]) fun s hs => ?_
    rw [← h2 s (by omega), e, pm_one]
    simp [List.getD, show s < n by omega]
  · intro e
    refine h1.ext (Sim.one n) fun s hs => ?_
    rw [h2 s hs, e, pm_one]
    simp [List.getD, hs]
/-- Tight, for lists; c is the inverse of a. -/
def tightB (a b c : List Nat) : Bool := (List.range (a.length - 1)).all fun i => !(decide (b.getD (i + 1) 0 < b.getD i 0) && decide (c.getD i 0 < c.getD (i + 1) 0))
theorem tightB_iff {n : Nat} {a b c : List Nat} (ha : isP a) (hb : isP b) (la : a.length = n) (lb : b.length = n) (hc : ∀ s, s < n → c.getD (a.getD s 0) 0 = s) : tightB a b c = true ↔ Tight n (elt a) (elt b) := by
  obtain ⟨a1, a2⟩ := elt_spec ha la
  obtain ⟨b1, b2⟩ := elt_spec hb lb
  have hr : ∀ i, i < n → pm (rev (elt a)) i = c.getD i 0 := fun i hi => by
    obtain ⟨s, hs, e⟩ := ha.surj (i := i) (by omega)
    rw [la] at hs
    have h1 := pm_rev (elt a) s
    rw [a2 s hs, e] at h1
    have h2 := hc s hs
    rw [e] at h2
    rw [h1, h2]
  unfold tightB Tight
  rw [List.all_eq_true]
  constructor
  · intro h i hi hd
    have := h i (List.mem_range.2 (by omega))
    rw [b2 i (by omega), b2 (i + 1) hi] at hd
    rw [hr i (by omega), hr (i + 1) hi]
    simp only [Bool.not_eq_true', Bool.and_eq_false_iff, decide_eq_false_iff_not] at this
    omega
  · intro h i hi
    rw [List.mem_range] at hi
    have := h i (by omega)
    rw [b2 i (by omega), b2 (i + 1) (by omega), hr i (by omega), hr (i + 1) (by omega)] at this
    simp only [Bool.not_eq_true', Bool.and_eq_false_iff, decide_eq_false_iff_not]
    omega
end Gar
end Go.Proofs.Ytoaiblhlpdaeoaa
/- Words for slices of integers in memory. -/
namespace Go.Proofs.Ytoaiblhlpdaeoaa
set_option linter.unusedVariables false
set_option linter.unusedSimpArgs false
open Go.RowKit

theorem block_of_add (a : Addr) (n : Nat) : (a.add n).block = a.block := by unfold Addr.add; split <;> rfl
theorem add_of_add (a : Addr) (i j : Nat) : (a.add i).add j = a.add (i + j) := by
  unfold Addr.add
  by_cases hi : i = 0 <;> by_cases hj : j = 0 <;> simp [hi, hj, Nat.add_assoc]

theorem hide {p : Prop} (h : p) : Hid p := h
/-- The slice value '.slice A n c' holds the integers xs. -/
structure IL (w : World) (A : Option Addr) (n : Nat) (xs : List Int) : Prop where
  len : xs.length = n
  small : n ≤ 17592186044416
  mem : 0 < n → ∃ ad, A = some ad ∧ ad.block < w.heap.size ∧ ∀ j, j < n → w.cell? (ad.add j) = some (.int .i64 (xs.getD j 0))

section
variable {w w' : World} {A : Option Addr} {n : Nat} {xs : List Int}
theorem IL.at_ {k : Nat} (h : IL w A n xs) (hk : k < n) : ∃ ad, A = some ad ∧ w.cell? (ad.add k) = some (.int .i64 (xs.getD k 0)) := by
  obtain ⟨ad, e, _, hc⟩ := h.mem (by omega)
  exact ⟨ad, e, hc k hk⟩
theorem IL.below (h : IL w A n xs) (hb : Below w.heap.size w w') : IL w' A n xs :=
  ⟨h.len, h.small, fun hn => by
    obtain ⟨ad, e, hl, hc⟩ := h.mem hn
    exact ⟨ad, e, Nat.lt_of_lt_of_le hl hb.size, fun j hj => (hb.cell (p := ad.add j) (by rw [block_of_add]; exact hl)).trans (hc j hj)⟩⟩
theorem IL.nil_ (w : World) : IL w none 0 [] := ⟨rfl, by omega, fun h => absurd h (by omega)⟩
theorem below_drewN {B : Nat} {a w : World} (h : Below B a w) (n : Nat) : Below B a (w.drewN n) := ⟨h.os, h.tape, h.output, h.size, h.block⟩
end

/-- Block g is just the cells cs of element type t, none frozen. -/
def Blk (w : World) (g : Nat) (t : TypeId) (cs : Array Value) : Prop := w.heap[g]? = some (.cells cs t (0, 0))
section
variable {w w' : World} {g : Nat} {t : TypeId} {cs : Array Value}
theorem Blk.lt (h : Blk w g t cs) : g < w.heap.size := by
  rcases Nat.lt_or_ge g w.heap.size with hlt | hge
  · exact hlt
  · unfold Blk at h; rw [Array.getElem?_eq_none hge] at h; cases h
theorem Blk.cell (h : Blk w g t cs) (i : Nat) : w.cell? ⟨g, i, none⟩ = cs[i]? := cell_of_row w g i cs t (0, 0) h
theorem Blk.frozen (h : Blk w g t cs) (i : Nat) : w.frozen? ⟨g, i, none⟩ = false := by
  unfold Blk at h
  simp [World.frozen?, h]
theorem Blk.new (w : World) (t : TypeId) (cs : Array Value) : Blk (w.alloc (.cells cs t)) w.heap.size t cs := heap_alloc_new w _
theorem Blk.drewN (h : Blk w g t cs) (n : Nat) : Blk (w.drewN n) g t cs := h
theorem Blk.alloc (h : Blk w g t cs) (o : Obj) : Blk (w.alloc o) g t cs := (Below.heap_alloc w o g h.lt).trans h
theorem Blk.set_ (h : Blk w g t cs) (i : Nat) (u : Value) : Blk (w.setCell ⟨g, i, none⟩ u) g t (cs.setIfInBounds i u) := by
  unfold Blk at h ⊢
  simp [World.setCell, Array.getElem?_modify, h]
theorem Blk.far (h : Blk w g t cs) {p : Addr} (hp : g ≠ p.block) (u : Value) : Blk (w.setCell p u) g t cs := (Below.heap_setCell w p u g hp).trans h
theorem Blk.below {B : Nat} (h : Blk w g t cs) (hb : Below B w w') (hg : g < B) : Blk w' g t cs := (hb.block g hg).trans h
theorem Blk.grown {row : Option Nat} (h : Blk w g t cs) (hb : w.grownBy w' row) (hg : some g ≠ row) : Blk w' g t cs := (hb.block g h.lt hg).trans h
end

/-- The slice '.slice A n c' owns a row from block 'base' on, which holds the integers xs. -/
structure OwnI (w : World) (base : Nat) (A : Option Addr) (n c : Nat) (xs : List Int) : Prop where
  own : w.ownsRow base 3 1 (.slice A n c) n (xs.map (Value.int .i64))
  small : n ≤ 17592186044416
section
variable {w w' : World} {base : Nat} {A : Option Addr} {n c : Nat} {xs : List Int}
theorem OwnI.len (h : OwnI w base A n c xs) : xs.length = n := by have := h.own.1; simpa using this
theorem OwnI.form (h : OwnI w base A n c xs) (hn : 0 < n) : ∃ g, A = some ⟨g, 0, none⟩ ∧ base ≤ g ∧ g < w.heap.size := by
  rcases h.own.2 with ⟨_, h0⟩ | ⟨g, cap, cur, hv, hg, hh, _⟩
  · omega
  · simp only [Value.slice.injEq] at hv
    exact ⟨g, hv.1, hg, Blk.lt (w := w) (t := 3) (cs := cur) hh⟩
theorem OwnI.il (h : OwnI w base A n c xs) : IL w A n xs := by
  refine ⟨h.len, h.small, fun hn => ?_⟩
  obtain ⟨g, rfl, _, hlt⟩ := h.form hn
  refine ⟨⟨g, 0, none⟩, rfl, hlt, fun j hj => ?_⟩
  have e : (⟨g, 0, none⟩ : Addr).add j = ⟨g, j, none⟩ := by unfold Addr.add; split <;> simp_all
  have hl := h.len
  rw [e, h.own.cellAt j (by omega), List.getElem?_map, List.getElem?_eq_getElem (by omega)]
  simp [List.getD, List.getElem?_eq_getElem (show j < xs.length by omega)]
theorem OwnI.below (h : OwnI w base A n c xs) (hb : Below w.heap.size w w') : OwnI w' base A n c xs := by
  refine ⟨⟨h.own.1, ?_⟩, h.small⟩
  rcases h.own.2 with h2 | ⟨g, cap, cur, hv, hg, hh, r⟩
  · exact .inl h2
  · exact .inr ⟨g, cap, cur, hv, hg, (hb.block g (Blk.lt (w := w) (t := 3) (cs := cur) hh)).trans hh, r⟩
theorem OwnI.mono {b' : Nat} (h : OwnI w base A n c xs) (hb : b' ≤ base) : OwnI w b' A n c xs := by
  refine ⟨⟨h.own.1, ?_⟩, h.small⟩
  rcases h.own.2 with h2 | ⟨g, cap, cur, hv, hg, r⟩
  · exact .inl h2
  · exact .inr ⟨g, cap, cur, hv, by omega, r⟩
/-- A made slice. -/
theorem OwnI.zero {z : Array Value} (h : w.ownsRow base 3 1 (.slice A n c) n (madeCells #[Value.int .i64 0] (n * 1)).toList) (hs : n ≤ 17592186044416) : OwnI w base A n c (List.replicate n 0) := by
  refine ⟨?_, hs⟩
  rw [toList_madeCells_one, Nat.mul_one] at h
  simpa using h
theorem OwnI.set_ {g : Nat} (h : OwnI w base (some ⟨g, 0, none⟩) n c xs) (j : Nat) (u : Int) : OwnI (w.setCell ⟨g, j, none⟩ (.int .i64 u)) base (some ⟨g, 0, none⟩) n c (xs.set j u) := by
  refine ⟨?_, h.small⟩
  rw [List.map_set]
  exact (h.own.stored j _).1
theorem OwnI.cell {g : Nat} (h : OwnI w base (some ⟨g, 0, none⟩) n c xs) {j : Nat} (hj : j < n) : w.cell? ⟨g, j, none⟩ = some (.int .i64 (xs.getD j 0)) := by
  have hl := h.len
  rw [h.own.cellAt j (by omega), List.getElem?_map, List.getElem?_eq_getElem (by omega)]
  simp [List.getD, List.getElem?_eq_getElem (show j < xs.length by omega)]
theorem OwnI.frozen {g : Nat} (h : OwnI w base (some ⟨g, 0, none⟩) n c xs) (j : Nat) : w.frozen? ⟨g, j, none⟩ = false := h.own.frozenAt j
end

/-- Whether two lists are equal. -/
def eqB (xs ys : List Int) : Bool := decide (xs = ys)
attribute [irreducible] eqB
theorem eqB_true {xs ys : List Int} (h : xs = ys) : eqB xs ys = true := by unfold eqB; simp [h]
theorem eqB_false {xs ys : List Int} (h : xs ≠ ys) : eqB xs ys = false := by unfold eqB; simp [h]
theorem eqB_iff {xs ys : List Int} : eqB xs ys = true ↔ xs = ys := by unfold eqB; simp
end Go.Proofs.Ytoaiblhlpdaeoaa
/- Plain mathematics: ranks. -/
namespace Go.Proofs.Ytoaiblhlpdaeoaa
set_option linter.unusedVariables false
set_option linter.unusedSimpArgs false

/-- How many elements are less than x. -/
def cntLt (xs : List Int) (x : Int) : Nat := xs.countP fun y => decide (y < x)
theorem zs_drop (a : List Nat) (i : Nat) : (zs a).drop i = zs (a.drop i) := by simp [zs, List.map_drop]
end Go.Proofs.Ytoaiblhlpdaeoaa
/- Plain mathematics: ranks, unranking, lexicographic order. -/
namespace Go.Proofs.Ytoaiblhlpdaeoaa
set_option linter.unusedVariables false
set_option linter.unusedSimpArgs false

def cntN (l : List Nat) (x : Nat) : Nat := l.countP fun y => decide (y < x)
theorem cntLt_zs (l : List Nat) (x : Nat) : cntLt (zs l) (x : Int) = cntN l x := by
  unfold cntLt cntN zs
  rw [List.countP_map]
  congr 1
  funext y
  simp
theorem cntN_self (r : List Nat) (x : Nat) : cntN (x :: r) x = cntN r x := by
  unfold cntN
  rw [List.countP_cons]
  simp
abbrev Sorted (l : List Nat) : Prop := l.Pairwise (· < ·)

theorem cnt_zero {l : List Nat} {x : Nat} (h : ∀ y ∈ l, x ≤ y) : cntN l x = 0 := by
  unfold cntN
  rw [List.countP_eq_zero]
  intro y hy
  have := h y hy
  simp
  omega
theorem cntN_cons (u x : Nat) (t : List Nat) : cntN (u :: t) x = cntN t x + if u < x then 1 else 0 := by
  unfold cntN
  rw [List.countP_cons]
  simp
theorem sorted_at : ∀ {us : List Nat} {x : Nat}, Sorted us → x ∈ us → us.getD (cntN us x) 0 = x
  | u :: t, x, hs, hx => by
    have hs' := List.pairwise_cons.1 hs
    by_cases h : x = u
    · subst h
      rw [cntN_self, cnt_zero (fun y hy => Nat.le_of_lt (hs'.1 y hy))]
      rfl
    · have hxt : x ∈ t := by
        rcases List.mem_cons.1 hx with e | e
        · exact absurd e h
        · exact e
      rw [cntN_cons, if_pos (hs'.1 x hxt)]
      have := sorted_at hs'.2 hxt
      simpa [List.getD] using this
theorem perm_pick {us : List Nat} {i : Nat} (hi : i < us.length) : (us.getD i 0 :: (us.take i ++ us.drop (i + 1))).Perm us := by
  have e : us = us.take i ++ us.getD i 0 :: us.drop (i + 1) := by
    rw [getD_eq hi, ← List.drop_eq_getElem_cons hi, List.take_append_drop]
  have h2 : (us.getD i 0 :: (us.take i ++ us.drop (i + 1))).Perm (us.take i ++ us.getD i 0 :: us.drop (i + 1)) := List.perm_middle.symm
  rw [← e] at h2
  exact h2
theorem sorted_pick {us : List Nat} (hs : Sorted us) (i : Nat) : Sorted (us.take i ++ us.drop (i + 1)) := by
  rw [← List.eraseIdx_eq_take_drop_succ]
  exact List.Pairwise.sublist (List.eraseIdx_sublist us i) hs
theorem cntN_perm {l l' : List Nat} (h : l.Perm l') (x : Nat) : cntN l x = cntN l' x := h.countP_eq _

theorem isP.perm {a : List Nat} (h : isP a) : a.Perm (List.range a.length) := by
  refine (List.perm_ext_iff_of_nodup h.2 List.nodup_range).2 fun x => ?_
  rw [List.mem_range]
  exact ⟨fun hx => h.1 x hx, fun hx => h.mem hx⟩
end Go.Proofs.Ytoaiblhlpdaeoaa
/- append on slices of integers that the call itself made. -/
namespace Go.Proofs.Ytoaiblhlpdaeoaa
set_option linter.unusedVariables false
set_option linter.unusedSimpArgs false
open Go.RowKit

/-- What append leaves: the new slice, what turned, and where the new slice lies. -/
structure Appended (w : World) (base : Nat) (A : Option Addr) (n c : Nat) (zs : List Int) (A' : Option Addr) (c' : Nat) (w' : World) : Prop where
  own : OwnI w' base A' n c' zs
  grown : w.grownBy w' (Value.slice A n c).ownBlock
  lies : (Value.slice A' n c').ownBlock = (Value.slice A n c).ownBlock ∨ (Value.slice A' n c').ownBlock = some w.heap.size

theorem ownBlock_len (A : Option Addr) (n m c d : Nat) : (Value.slice A n c).ownBlock = (Value.slice A m d).ownBlock := by cases A <;> rfl

section
variable {P : Program} (w : World)

theorem run_append_int (base : Nat) (t ty : TypeId) (i : TypeInfo) (ht : P.underlying t = some (.slice 3)) (hi : P.info? 3 = some i) (hz : i.zero = some (.int .i64 0)) (hsize : i.size = 1) (hby : i.bytes = 8)
    (A : Option Addr) (n c : Nat) (xs : List Int) (hown : OwnI w base A n c xs) (B : Option Addr) (m d : Nat) (ys : List Int) (hb : IL w B m ys)
    (hs : n + m ≤ 17592186044416) (hbase : base ≤ w.heap.size) :
    ∃ A' c' w', (Builtin.append_ #[t, t] ty #[.slice A n c, .slice B m d]).run P w = .ok (.slice A' (n + m) c') w' ∧ Appended w base A (n + m) c (xs ++ ys) A' c' w' := by
  rcases B with _ | ad
  · have hm : m = 0 := by
      rcases Nat.eq_zero_or_pos m with h0 | h0
      · exact h0
      · obtain ⟨ad, h, _⟩ := hb.mem h0
        cases h
    subst hm
    obtain rfl : ys = [] := List.eq_nil_of_length_eq_zero hb.len
    refine ⟨A, c, w, ?_, ?_⟩
    · rcases hown.own.2 with ⟨hv, h0⟩ | ⟨g, cap, cur, hv, _, _, hnc, _⟩
      · simp only [Value.slice.injEq] at hv
        obtain ⟨rfl, rfl, rfl⟩ := hv
        simp [Builtin.append_, run_underlying ht, sizeOf, typeInfo, hi, Builtin.lenOf, Builtin.firstCells]
      · simp only [Value.slice.injEq, true_and] at hv
        obtain ⟨rfl, rfl⟩ := hv
        simp [Builtin.append_, run_underlying ht, sizeOf, typeInfo, hi, Builtin.lenOf, Builtin.firstCells, hnc, storeCells]
    · exact ⟨by simpa using hown, World.grownBy.refl w _, .inl rfl⟩
  · have hl := hb.len
    have hcells : ∀ j u, (ys.map (Value.int .i64))[j]? = some u → w.cell? (ad.add j) = some u := by
      intro j u hu
      have hj : j < m := by
        have := (List.getElem?_eq_some_iff.1 hu).1
        simpa [hl] using this
      obtain ⟨ad', h, hc⟩ := hb.at_ hj
      injection h with h
      subst h
      rw [hc, ← hu, List.getElem?_map, List.getElem?_eq_getElem (by omega)]
      simp [List.getD, List.getElem?_eq_getElem (show j < ys.length by omega)]
    obtain ⟨v', w', hrun, h2, h3, _, h5⟩ := run_append_own_at (P := P) w base t ty 3 i (.int .i64 0) 1 8 ht hi hz hsize hby rfl (by omega) (.slice A n c) n _ hown.own ad m d (ys.map (Value.int .i64))
      (by simp [hl]) hcells (ints_oneCell _ _) (by simp only [maxLen]; omega) (by omega) hbase
    have hv : ∃ A' c', v' = .slice A' (n + m) c' := by
      rcases h2.2 with ⟨rfl, h0⟩ | ⟨g, cap, cur, rfl, _⟩
      · exact ⟨none, 0, by rw [h0]⟩
      · exact ⟨_, _, rfl⟩
    obtain ⟨A', c', rfl⟩ := hv
    refine ⟨A', c', w', hrun, ⟨?_, hs⟩, ?_, ?_⟩
    · rw [List.map_append]; exact h2
    · rw [ownBlock_len A (n + m) n c c]; exact h3
    · rw [ownBlock_len A (n + m) n c c]; exact h5

theorem wp_append_int {o : Oper} {a : Act} {K : Act → World → Prop} {Q : Exit → Act → World → Prop} (s x : Operand) (t : TypeId)
    (ho : o.op = .call { callee := .builtin .append, args := #[s, x], argTypes := #[t, t] })
    (base : Nat) (i : TypeInfo) (ht : P.underlying t = some (.slice 3)) (hi : P.info? 3 = some i) (hz : i.zero = some (.int .i64 0)) (hsize : i.size = 1) (hby : i.bytes = 8)
    (A : Option Addr) (n c : Nat) (xs : List Int) (hs : a.eval s = .slice A n c) (hown : OwnI w base A n c xs) (B : Option Addr) (m d : Nat) (ys : List Int) (hx : a.eval x = .slice B m d) (hb : IL w B m ys)
    (hsm : n + m ≤ 17592186044416) (hbase : base ≤ w.heap.size)
    (h : ∀ A' c' w', Appended w base A (n + m) c (xs ++ ys) A' c' w' → K (a.put o.dst (.slice A' (n + m) c')) w') : o.wp P a w K Q := by
  obtain ⟨A', c', w', hrun, h2⟩ := run_append_int (P := P) w base t o.type i ht hi hz hsize hby A n c xs hown B m d ys hb hsm hbase
  unfold Oper.wp execOp
  simp only [ho, resolve, invoke, builtin, Sem.run_bind, Sem.run_pure, Result.andThen_ok, List.map_toArray, List.map_cons, List.map_nil, hs, hx, hrun]
  exact h A' c' w' h2

theorem wpList_append_int {ops : Array Oper} {rest : List Oper} {o : Oper} {a : Act} {Q : Exit → Act → World → Prop} (hgd : o.guard = none) (s x : Operand) (t : TypeId)
    (ho : o.op = .call { callee := .builtin .append, args := #[s, x], argTypes := #[t, t] })
    (base : Nat) (i : TypeInfo) (ht : P.underlying t = some (.slice 3)) (hi : P.info? 3 = some i) (hz : i.zero = some (.int .i64 0)) (hsize : i.size = 1) (hby : i.bytes = 8)
    (A : Option Addr) (n c : Nat) (xs : List Int) (hs : a.eval s = .slice A n c) (hown : OwnI w base A n c xs) (B : Option Addr) (m d : Nat) (ys : List Int) (hx : a.eval x = .slice B m d) (hb : IL w B m ys)
    (hsm : n + m ≤ 17592186044416) (hbase : base ≤ w.heap.size)
    (h : ∀ A' c' w', Appended w base A (n + m) c (xs ++ ys) A' c' w' → wpList P ops Q rest (a.put o.dst (.slice A' (n + m) c')) w') : wpList P ops Q (o :: rest) a w :=
  wpList_plain hgd fun _ hK => wp_append_int w s x t ho base i ht hi hz hsize hby A n c xs hs hown B m d ys hx hb hsm hbase fun A' c' w' h2 => hK _ _ (h A' c' w' h2)

end

section
variable {w w' : World} {base : Nat} {A : Option Addr} {n c : Nat} {xs : List Int}
theorem OwnI.nil_ (w : World) (base : Nat) : OwnI w base none 0 0 [] := ⟨World.ownsRow_nil _ _ _ _, by omega⟩
theorem OwnI.alloc (h : OwnI w base A n c xs) (o : Obj) : OwnI (w.alloc o) base A n c xs := ⟨h.own.alloc o, h.small⟩
theorem OwnI.drew (h : OwnI w base A n c xs) : OwnI w.drew base A n c xs := ⟨h.own, h.small⟩
theorem OwnI.drewN (h : OwnI w base A n c xs) (k : Nat) : OwnI (w.drewN k) base A n c xs := ⟨h.own, h.small⟩
theorem IL.alloc (h : IL w A n xs) (o : Obj) : IL (w.alloc o) A n xs := h.below ((Below.refl _ _).alloc (Nat.le_refl _) o)
theorem IL.drew (h : IL w A n xs) : IL w.drew A n xs := h.below (Below.refl _ _).drew
theorem IL.drewN (h : IL w A n xs) (k : Nat) : IL (w.drewN k) A n xs := h.below (below_drewN (Below.refl _ _) k)
/-- A literal slice. -/
theorem OwnI.lit (w : World) (xs : List Int) (hb : base ≤ w.heap.size) (hs : xs.length ≤ 17592186044416) {cs : Array Value} (hc : cs = (xs.map (Value.int .i64)).toArray) {m d : Nat} (hm : xs.length = m) (hd : m = d) :
    OwnI (w.alloc (.cells cs 3)) base (some ⟨w.heap.size, 0, none⟩) m d xs := by
  subst hc hm hd
  refine ⟨?_, hs⟩
  have := World.ownsRow_lit (base := base) (e := 3) (size := 1) w (xs.map (Value.int .i64)).toArray xs.length hb (by unfold maxLen; omega) (by simp)
  simpa using this
theorem IL.lit (w : World) (xs : List Int) (hs : xs.length ≤ 17592186044416) {cs : Array Value} (hc : cs = (xs.map (Value.int .i64)).toArray) {m : Nat} (hm : xs.length = m) :
    IL (w.alloc (.cells cs 3)) (some ⟨w.heap.size, 0, none⟩) m xs := (OwnI.lit (base := 0) w xs (Nat.zero_le _) hs hc hm rfl).il
/-- A row is kept where another one was written. -/
theorem OwnI.kept (h : OwnI w base A n c xs) {row : Option Nat} (hg : w.grownBy w' row) (hne : (Value.slice A n c).ownBlock = none ∨ (Value.slice A n c).ownBlock ≠ row) : OwnI w' base A n c xs := ⟨h.own.kept hg hne, h.small⟩
theorem OwnI.cap (h : OwnI w base A n c xs) : n ≤ c := by
  rcases h.own.2 with ⟨hv, h0⟩ | ⟨g, cap, cur, hv, _, _, hnc, _⟩
  · omega
  · simp only [Value.slice.injEq, true_and] at hv
    omega
theorem OwnI.lt (h : OwnI w base A n c xs) : ∀ k, (Value.slice A n c).ownBlock = some k → base ≤ k ∧ k < w.heap.size := h.own.lt
end
section
variable {w w' : World} {base : Nat} {A : Option Addr} {n c : Nat} {xs : List Int}
theorem IL.pre {k : Nat} (h : IL w A n xs) (hk : k ≤ n) : IL w A k (xs.take k) := by
  have hl := h.len
  refine ⟨by rw [List.length_take]; omega, by have := h.small; omega, fun h0 => ?_⟩
  obtain ⟨ad, e, hlt, hc⟩ := h.mem (by omega)
  refine ⟨ad, e, hlt, fun j hj => ?_⟩
  rw [hc j (by omega)]
  simp [List.getD, List.getElem?_take, hj]
theorem IL.tail {g o k d : Nat} (h : IL w (some ⟨g, o, none⟩) n xs) (hk : k ≤ n) (hd : n ≤ d) : IL w (if d = k then some ⟨g, o, none⟩ else some ⟨g, o + k, none⟩) (n - k) (xs.drop k) := by
  have hl := h.len
  refine ⟨by rw [List.length_drop]; omega, by have := h.small; omega, fun h0 => ?_⟩
  obtain ⟨ad, e, hlt, hc⟩ := h.mem (by omega)
  injection e with e
  subst e
  rw [if_neg (by omega)]
  refine ⟨_, rfl, hlt, fun j hj => ?_⟩
  have e2 := hc (k + j) (by omega)
  rw [Addr.add_lit] at e2 ⊢
  rw [Nat.add_assoc, e2]
  simp [List.getD, List.getElem?_drop]
end

end Go.Proofs.Ytoaiblhlpdaeoaa
/- Plain mathematics: cycles of a permutation. -/
namespace Go.Proofs.Ytoaiblhlpdaeoaa
set_option linter.unusedVariables false
set_option linter.unusedSimpArgs false

/-- a applied t times to s. -/
def it (a : List Nat) : Nat → Nat → Nat
  | 0, s => s
  | t + 1, s => a.getD (it a t s) 0
end Go.Proofs.Ytoaiblhlpdaeoaa
/- Plain mathematics: powers and the order of a permutation. -/
namespace Go.Proofs.Ytoaiblhlpdaeoaa
set_option linter.unusedVariables false
set_option linter.unusedSimpArgs false

/-- The power of a permutation. -/
def powN (a : List Nat) (m : Nat) : List Nat := (List.range a.length).map (it a m)
theorem powN_zero (a : List Nat) : powN a 0 = List.range a.length := by
  unfold powN
  conv => rhs; rw [← List.map_id (List.range a.length)]
  rfl
theorem comp_range {a : List Nat} {n : Nat} (h : ∀ x ∈ a, x < n) : comp a (List.range n) = a := by
  refine list_ext_getD (by simp [comp_length]) ?_
  intro j hj
  rw [comp_length] at hj
  rw [comp_getD hj, range_getD (h _ (getD_mem hj))]
end Go.Proofs.Ytoaiblhlpdaeoaa
/- Slices of slices of integers that the call itself made. -/
namespace Go.Proofs.Ytoaiblhlpdaeoaa
set_option linter.unusedVariables false
set_option linter.unusedSimpArgs false
open Go.RowKit

/-- Every block of cells of type e is as it was. -/
def KeepT (e : TypeId) (w w' : World) : Prop := ∀ (g : Nat) (cur : Array Value), w.heap[g]? = some (.cells cur e (0, 0)) → w'.heap[g]? = some (.cells cur e (0, 0))
section
variable {e t : TypeId} {w w' w2 : World} {g : Nat} {cs : Array Value}
theorem KeepT.refl (e : TypeId) (w : World) : KeepT e w w := fun _ _ h => h
theorem KeepT.trans (h : KeepT e w w') (k : KeepT e w' w2) : KeepT e w w2 := fun g cur hg => k g cur (h g cur hg)
theorem KeepT.below (h : Below w.heap.size w w') : KeepT e w w' := fun g cur hg => (h.block g (Blk.lt (w := w) (t := e) (cs := cur) hg)).trans hg
theorem KeepT.alloc (w : World) (o : Obj) : KeepT e w (w.alloc o) := KeepT.below ((Below.refl _ _).alloc (Nat.le_refl _) o)
theorem KeepT.set_ (h : Blk w g t cs) (hne : t ≠ e) (i : Nat) (u : Value) : KeepT e w (w.setCell ⟨g, i, none⟩ u) := fun k cur hk => by
  refine (Below.heap_setCell w ⟨g, i, none⟩ u k ?_).trans hk
  rintro rfl
  unfold Blk at h
  rw [hk] at h
  injection h with h
  injection h with _ h
  exact hne h.symm
theorem KeepT.grown {row : Option Nat} (hg : w.grownBy w' row) (hr : ∀ k, row = some k → ∃ (t : TypeId) (cs : Array Value), w.heap[k]? = some (.cells cs t (0, 0)) ∧ t ≠ e) : KeepT e w w' := fun k cur hk => by
  refine (hg.block k (Blk.lt (w := w) (t := e) (cs := cur) hk) ?_).trans hk
  intro he
  obtain ⟨t, cs, h, hne⟩ := hr k he.symm
  rw [hk] at h
  injection h with h
  injection h with _ h
  exact hne h.symm
theorem KeepT.own {base size n : Nat} {v : Value} {xs : List Value} (h : KeepT e w w') (ho : w.ownsRow base e size v n xs) : w'.ownsRow base e size v n xs := by
  refine ⟨ho.1, ?_⟩
  rcases ho.2 with h2 | ⟨k, cap, cur, hv, hg, hh, r⟩
  · exact .inl h2
  · exact .inr ⟨k, cap, cur, hv, hg, h k cur hh, r⟩
theorem KeepT.ownI {base n c : Nat} {A : Option Addr} {xs : List Int} (h : KeepT 3 w w') (ho : OwnI w base A n c xs) : OwnI w' base A n c xs := ⟨h.own ho.own, ho.small⟩
end

/-- A slice of slices: its own row. -/
structure OwnV (w : World) (base : Nat) (A : Option Addr) (n c : Nat) (vs : List Value) : Prop where
  own : w.ownsRow base 22 1 (.slice A n c) n vs
  small : n ≤ 1000000
/-- The values are slices of the call's own, which hold the lists. -/
structure RowsI (w : World) (base : Nat) (vs : List Value) (xss : List (List Int)) : Prop where
  len : vs.length = xss.length
  row : ∀ i, i < vs.length → ∃ A n c, vs[i]? = some (.slice A n c) ∧ OwnI w base A n c (xss.getD i [])
section
variable {w w' : World} {base n c : Nat} {A : Option Addr} {vs : List Value} {xss : List (List Int)}
theorem OwnV.nil_ (w : World) (base : Nat) : OwnV w base none 0 0 [] := ⟨World.ownsRow_nil _ _ _ _, by omega⟩
theorem OwnV.len (h : OwnV w base A n c vs) : vs.length = n := by have := h.own.1; simpa using this
theorem OwnV.keep (h : OwnV w base A n c vs) (k : KeepT 22 w w') : OwnV w' base A n c vs := ⟨k.own h.own, h.small⟩
theorem OwnV.alloc (h : OwnV w base A n c vs) (o : Obj) : OwnV (w.alloc o) base A n c vs := h.keep (KeepT.alloc w o)
theorem OwnV.lt (h : OwnV w base A n c vs) : ∀ k, (Value.slice A n c).ownBlock = some k → base ≤ k ∧ k < w.heap.size := h.own.lt
theorem OwnV.block (h : OwnV w base A n c vs) : ∀ k, (Value.slice A n c).ownBlock = some k → ∃ (t : TypeId) (cs : Array Value), w.heap[k]? = some (.cells cs t (0, 0)) ∧ t ≠ 3 := by
  intro k hk
  rcases h.own.2 with ⟨hv, _⟩ | ⟨g, cap, cur, hv, _, hh, _⟩
  · rw [hv] at hk; cases hk
  · rw [hv] at hk
    injection hk with hk
    subst hk
    exact ⟨22, cur, hh, by decide⟩
theorem OwnV.cellAt (h : OwnV w base A n c vs) {j : Nat} (hj : j < n) : ∃ g, A = some ⟨g, 0, none⟩ ∧ w.cell? ⟨g, j, none⟩ = vs[j]? := by
  rcases h.own.2 with ⟨_, h0⟩ | ⟨g, cap, cur, hv, _, hh, _⟩
  · omega
  · have hA : A = some ⟨g, 0, none⟩ := by injection hv
    subst hA
    exact ⟨g, rfl, h.own.cellAt j (by omega)⟩
theorem RowsI.nil_ (w : World) (base : Nat) : RowsI w base [] [] := ⟨rfl, fun i hi => by simp at hi⟩
theorem RowsI.keep (h : RowsI w base vs xss) (k : KeepT 3 w w') : RowsI w' base vs xss := ⟨h.len, fun i hi => by
  obtain ⟨A, n, c, e, ho⟩ := h.row i hi
  exact ⟨A, n, c, e, k.ownI ho⟩⟩
theorem RowsI.snoc (h : RowsI w base vs xss) {B : Option Addr} {m d : Nat} {xs : List Int} (ho : OwnI w base B m d xs) : RowsI w base (vs ++ [.slice B m d]) (xss ++ [xs]) := by
  refine ⟨by simp [h.len], fun i hi => ?_⟩
  by_cases hlt : i < vs.length
  · obtain ⟨A, n, c, e, ho⟩ := h.row i hlt
    refine ⟨A, n, c, by rw [List.getElem?_append_left hlt]; exact e, ?_⟩
    have : (xss ++ [xs]).getD i [] = xss.getD i [] := by
      simp only [List.getD]
      rw [List.getElem?_append_left (by rw [← h.len]; exact hlt)]
    rw [this]
    exact ho
  · have hi' : i = vs.length := by simp at hi; omega
    subst hi'
    refine ⟨B, m, d, by simp, ?_⟩
    have : (xss ++ [xs]).getD vs.length [] = xs := by rw [h.len]; simp [List.getD]
    rw [this]
    exact ho
end

structure AppendedV (w : World) (base : Nat) (A : Option Addr) (n c : Nat) (zs : List Value) (A' : Option Addr) (c' : Nat) (w' : World) : Prop where
  own : OwnV w' base A' n c' zs
  grown : w.grownBy w' (Value.slice A n c).ownBlock
  lies : (Value.slice A' n c').ownBlock = (Value.slice A n c).ownBlock ∨ (Value.slice A' n c').ownBlock = some w.heap.size

section
variable {P : Program} (w : World)
theorem run_append_val (base : Nat) (t ty : TypeId) (i : TypeInfo) (ht : P.underlying t = some (.slice 22)) (hi : P.info? 22 = some i) (hz : i.zero = some (.slice none 0 0)) (hsize : i.size = 1) (hby : i.bytes = 24)
    (A : Option Addr) (n c : Nat) (vs : List Value) (hown : OwnV w base A n c vs) (ad : Addr) (d : Nat) (u : Value) (hu : w.cell? ad = some u) (h1 : u.oneCell' = true)
    (hs : n + 1 ≤ 1000000) (hbase : base ≤ w.heap.size) :
    ∃ A' c' w', (Builtin.append_ #[t, t] ty #[.slice A n c, .slice (some ad) 1 d]).run P w = .ok (.slice A' (n + 1) c') w' ∧ AppendedV w base A (n + 1) c (vs ++ [u]) A' c' w' := by
  have hcells : ∀ j v, [u][j]? = some v → w.cell? (ad.add j) = some v := by
    intro j v hv
    rcases j with _ | j
    · simp at hv
      subst hv
      have : ad.add 0 = ad := by unfold Addr.add; simp
      rw [this]
      exact hu
    · simp at hv
  obtain ⟨v', w', hrun, h2, h3, _, h5⟩ := run_append_own_at (P := P) w base t ty 22 i (.slice none 0 0) 1 24 ht hi hz hsize hby rfl (by omega) (.slice A n c) n _ hown.own ad 1 d [u]
    rfl hcells (by simpa using h1) (by simp only [maxLen]; omega) (by omega) hbase
  have hv : ∃ A' c', v' = .slice A' (n + 1) c' := by
    rcases h2.2 with ⟨rfl, h0⟩ | ⟨g, cap, cur, rfl, _⟩
    · omega
    · exact ⟨_, _, rfl⟩
  obtain ⟨A', c', rfl⟩ := hv
  refine ⟨A', c', w', hrun, ⟨h2, hs⟩, ?_, ?_⟩
  · rw [ownBlock_len A (n + 1) n c c]; exact h3
  · rw [ownBlock_len A (n + 1) n c c]; exact h5

theorem wpList_append_val {ops : Array Oper} {rest : List Oper} {o : Oper} {a : Act} {Q : Exit → Act → World → Prop} (hgd : o.guard = none) (s x : Operand) (t : TypeId)
    (ho : o.op = .call { callee := .builtin .append, args := #[s, x], argTypes := #[t, t] })
    (base : Nat) (i : TypeInfo) (ht : P.underlying t = some (.slice 22)) (hi : P.info? 22 = some i) (hz : i.zero = some (.slice none 0 0)) (hsize : i.size = 1) (hby : i.bytes = 24)
    (A : Option Addr) (n c : Nat) (vs : List Value) (hs : a.eval s = .slice A n c) (hown : OwnV w base A n c vs) (ad : Addr) (d : Nat) (u : Value) (hx : a.eval x = .slice (some ad) 1 d) (hu : w.cell? ad = some u) (h1 : u.oneCell' = true)
    (hsm : n + 1 ≤ 1000000) (hbase : base ≤ w.heap.size)
    (h : ∀ A' c' w', AppendedV w base A (n + 1) c (vs ++ [u]) A' c' w' → wpList P ops Q rest (a.put o.dst (.slice A' (n + 1) c')) w') : wpList P ops Q (o :: rest) a w :=
  wpList_plain hgd fun K hK => by
    obtain ⟨A', c', w', hrun, h2⟩ := run_append_val (P := P) w base t o.type i ht hi hz hsize hby A n c vs hown ad d u hu h1 hsm hbase
    unfold Oper.wp execOp
    simp only [ho, resolve, invoke, builtin, Sem.run_bind, Sem.run_pure, Result.andThen_ok, List.map_toArray, List.map_cons, List.map_nil, hs, hx, hrun]
    exact hK _ _ (h A' c' w' h2)
end
end Go.Proofs.Ytoaiblhlpdaeoaa
/- Slices of slices of integers, to be read. (Not beside XOrder, which has words of its own of this name.) -/
namespace Go.Proofs.Ytoaiblhlpdaeoaa
set_option linter.unusedVariables false
set_option linter.unusedSimpArgs false
open Go.RowKit

/-- A slice of slices, to be read. -/
structure ILL (w : World) (A : Option Addr) (n : Nat) (xss : List (List Int)) : Prop where
  len : xss.length = n
  small : n ≤ 17592186044416
  mem : 0 < n → ∃ ad, A = some ad ∧ ad.block < w.heap.size ∧ ∀ j, j < n → ∃ B m d, w.cell? (ad.add j) = some (.slice B m d) ∧ IL w B m (xss.getD j [])
theorem ILL.at_ {w : World} {A : Option Addr} {n k : Nat} {xss : List (List Int)} (h : ILL w A n xss) (hk : k < n) : ∃ ad B m d, A = some ad ∧ w.cell? (ad.add k) = some (.slice B m d) ∧ IL w B m (xss.getD k []) := by
  obtain ⟨ad, e, _, hc⟩ := h.mem (by omega)
  obtain ⟨B, m, d, h1, h2⟩ := hc k hk
  exact ⟨ad, B, m, d, e, h1, h2⟩
theorem ILL.below {w w' : World} {A : Option Addr} {n : Nat} {xss : List (List Int)} (h : ILL w A n xss) (hb : Below w.heap.size w w') : ILL w' A n xss :=
  ⟨h.len, h.small, fun hn => by
    obtain ⟨ad, e, hl, hc⟩ := h.mem hn
    refine ⟨ad, e, Nat.lt_of_lt_of_le hl hb.size, fun j hj => ?_⟩
    obtain ⟨B, m, d, h1, h2⟩ := hc j hj
    exact ⟨B, m, d, (hb.cell (p := ad.add j) (by rw [block_of_add]; exact hl)).trans h1, h2.below hb⟩⟩
theorem ILL.drewN {w : World} {A : Option Addr} {n : Nat} {xss : List (List Int)} (h : ILL w A n xss) (k : Nat) : ILL (w.drewN k) A n xss := h.below (below_drewN (Below.refl _ _) k)
theorem ILL.of_rows {w : World} {base n c : Nat} {A : Option Addr} {vs : List Value} {xss : List (List Int)} (h : OwnV w base A n c vs) (hr : RowsI w base vs xss) : ILL w A n xss := by
  have hl := h.len
  refine ⟨by rw [← hr.len]; exact hl, by have := h.small; omega, fun hn => ?_⟩
  obtain ⟨g, rfl, _⟩ := h.cellAt hn
  refine ⟨⟨g, 0, none⟩, rfl, (h.lt g rfl).2, fun j hj => ?_⟩
  obtain ⟨g', e, hc⟩ := h.cellAt hj
  injection e with e
  injection e with e
  subst e
  obtain ⟨B, m, d, h1, h2⟩ := hr.row j (by omega)
  exact ⟨B, m, d, by rw [show (⟨g, 0, none⟩ : Addr).add j = ⟨g, j, none⟩ by unfold Addr.add; split <;> simp_all, hc, h1], h2.il⟩
theorem ILL.pre {w : World} {A : Option Addr} {n k : Nat} {xss : List (List Int)} (h : ILL w A n xss) (hk : k ≤ n) : ILL w A k (xss.take k) := by
  have hl := h.len
  refine ⟨by rw [List.length_take]; omega, by have := h.small; omega, fun h0 => ?_⟩
  obtain ⟨ad, e, hlt, hc⟩ := h.mem (by omega)
  refine ⟨ad, e, hlt, fun j hj => ?_⟩
  obtain ⟨B, m, d, h1, h2⟩ := hc j (by omega)
  refine ⟨B, m, d, h1, ?_⟩
  have : (xss.take k).getD j [] = xss.getD j [] := by simp [List.getD, List.getElem?_take, hj]
  rw [this]
  exact h2
/-- A literal of slices. -/
theorem ILL.lit {w : World} {vs : List Value} {xss : List (List Int)} (hl : vs.length = xss.length) (hs : xss.length ≤ 1000) (h : ∀ j, j < xss.length → ∃ B m d, vs[j]? = some (.slice B m d) ∧ IL w B m (xss.getD j [])) {cs : Array Value} (hc : cs = vs.toArray) {m : Nat} (hm : xss.length = m) :
    ILL (w.alloc (.cells cs 22)) (some ⟨w.heap.size, 0, none⟩) m xss := by
  subst hc
  refine ⟨hm, by omega, fun _ => ⟨⟨w.heap.size, 0, none⟩, rfl, by simp, fun j hj => ?_⟩⟩
  obtain ⟨B, n, d, h1, h2⟩ := h j (by omega)
  refine ⟨B, n, d, ?_, h2.alloc _⟩
  rw [show (⟨w.heap.size, 0, none⟩ : Addr).add j = ⟨w.heap.size, j, none⟩ by unfold Addr.add; split <;> simp_all, (Blk.new w 22 vs.toArray).cell j]
  simpa using h1
theorem sum_take {xss : List (List Int)} {k : Nat} (h : k < xss.length) : (xss.take (k + 1)).flatten = (xss.take k).flatten ++ xss.getD k [] := by
  rw [List.take_succ_eq_append_getElem h, List.flatten_append]
  simp [List.getD, List.getElem?_eq_getElem h]
theorem flatten_take_le (xss : List (List Int)) (k : Nat) : (xss.take k).flatten.length ≤ xss.flatten.length := by
  have := congrArg List.length (congrArg List.flatten (List.take_append_drop k xss))
  rw [List.flatten_append, List.length_append] at this
  omega
end Go.Proofs.Ytoaiblhlpdaeoaa
/- A map that the call made, whatever its elements: as a function from keys to elements, with the number of its entries. -/
namespace Go.Proofs.Ytoaiblhlpdaeoaa
open Go.RowKit Go.Maps

/-- An element reads as itself. -/
def HR (v : Value) : Option (DataW Value × List MemPlace) := some (.held v, [])

/-- Block b is a map with s entries, whose element at a key x is f x. -/
structure Dict (P : Program) (k : TypeId) (w : World) (b s : Nat) (f : Value → Option Value) : Prop where
  own : ∃ D : DataW Value, w.ownsMap P k HR b s D ∧ Tidy D ∧ Maps.size D = s ∧ ∀ key kl, keyOf P k key = some kl →
    match f key with
    | none => Maps.has D kl = false
    | some v => Maps.has D kl = true ∧ ∀ z, D.atKey kl z = .held v

section
variable {P : Program} {k : TypeId} {w w' : World} {b s : Nat} {f : Value → Option Value}
theorem Dict.made (w : World) (P : Program) (k : TypeId) : Dict P k (w.alloc (.map #[] 0)) w.heap.size 0 fun _ => none :=
  ⟨⟨.map [], World.ownsMap_made _ _ _ _, tidy_empty, rfl, fun _ _ _ => rfl⟩⟩
theorem Dict.lt (h : Dict P k w b s f) : b < w.heap.size := by obtain ⟨D, hD, _⟩ := h.own; exact hD.lt
theorem Dict.kept {row : Option Nat} (h : Dict P k w b s f) (hg : w.grownBy w' row) (hne : some b ≠ row) : Dict P k w' b s f := by
  obtain ⟨D, hD, r⟩ := h.own
  exact ⟨⟨D, hD.kept hg hne, r⟩⟩
theorem Dict.below (h : Dict P k w b s f) (hb : Below w.heap.size w w') : Dict P k w' b s f := by
  have hlt := h.lt
  obtain ⟨D, ⟨es, clock, hbl, r1⟩, r⟩ := h.own
  exact ⟨⟨D, ⟨es, clock, (hb.block b hlt).trans hbl, r1⟩, r⟩⟩
theorem Dict.alloc (h : Dict P k w b s f) (o : Obj) : Dict P k (w.alloc o) b s f := h.below ((Below.refl _ _).alloc (Nat.le_refl _) o)
theorem Dict.setCell (h : Dict P k w b s f) {a : Addr} (ha : b ≠ a.block) (u : Value) : Dict P k (w.setCell a u) b s f := by
  obtain ⟨D, hD, r⟩ := h.own
  exact ⟨⟨D, hD.setCell ha u, r⟩⟩
theorem Dict.drewN (h : Dict P k w b s f) (n : Nat) : Dict P k (w.drewN n) b s f := by
  obtain ⟨D, hD, r⟩ := h.own
  exact ⟨⟨D, hD, r⟩⟩
/-- Another map was written. -/
theorem Dict.turned {c : Nat} (h : Dict P k w b s f) (hg : w.grownBy w' (some c)) (hne : b ≠ c) : Dict P k w' b s f := h.kept hg (by simpa using hne)

/-- len(m) -/
theorem Dict.len {t e : TypeId} (h : Dict P k w b s f) (ht : P.underlying t = some (.map k e)) (ty : TypeId) : (Builtin.len_ #[t] ty #[.map (some b)]).run P w = .ok (.int .i64 s) w := by
  obtain ⟨D, hD, _, hs, _⟩ := h.own
  rw [hD.len ht ty, hs]
/-- m[x] = v -/
theorem Dict.store {t e : TypeId} (h : Dict P k w b s f) (K : Keyed P k) (ht : P.underlying t = some (.map k e)) (hn : s < maxLen)
    {key : Value} {kl : Lit} (hkey : keyOf P k key = some kl) (v : Value) {f' : Value → Option Value} (h1 : f' key = some v) (h2 : ∀ y l, keyOf P k y = some l → y ≠ key → f' y = f y) :
    ∃ w', (Instr.mapUpdate t (.map (some b)) key v).run P w = .ok () w' ∧ Dict P k w' b (if (f key).isSome then s else s + 1) f' ∧ w.grownBy w' (some b) ∧ w'.heap.size = w.heap.size := by
  obtain ⟨D, hD, hT, hs, hf⟩ := h.own
  obtain ⟨w1, hrun, hD1, hg⟩ := hD.store K ht hn hkey (val := v) (d := .held v) (ps := []) rfl
  have hIK : WideAt.IsKeyLit kl := K.key hkey
  have hT1 := hT.put hIK (.held v)
  have hsz : Maps.size (D.put kl (.held v)) = if (f key).isSome then s else s + 1 := by
    rw [Maps.size_put hT, hs]
    have := hf key kl hkey
    cases hfk : f key with
    | none => rw [hfk] at this; simp [this]
    | some u => rw [hfk] at this; simp [this.1]
  refine ⟨w1, hrun, ⟨⟨D.put kl (.held v), ?_, hT1, hsz, fun key' kl' hk' => ?_⟩⟩, hg.grown, ?_⟩
  · obtain ⟨es, clock, hb1, F1, hle, hDe⟩ := hD1
    refine ⟨es, clock, hb1, F1, ?_, hDe⟩
    rw [← hsz, hDe]
    simp [Maps.size, length_sorted]
  · by_cases e : key' = key
    · subst e
      rw [h1]
      have : kl' = kl := by rw [hkey] at hk'; injection hk' with hk'; exact hk'.symm
      subst this
      exact ⟨Maps.has_put_same hD.isMap hIK _, fun z => Maps.atKey_put_same hD.isMap hIK _ z⟩
    · rw [h2 key' kl' hk' e]
      have hne : kl' ≠ kl := fun h' => e (K.inj hk' (h' ▸ hkey))
      have := hf key' kl' hk'
      cases hfk : f key' with
      | none => rw [hfk] at this; simp only; rw [Maps.has_put_other hne]; exact this
      | some u =>
        rw [hfk] at this
        exact ⟨by rw [Maps.has_put_other hne]; exact this.1, fun z => by rw [Maps.atKey_put_other hne]; exact this.2 z⟩
  · obtain ⟨_, _, es', clock', _, rfl⟩ := hg
    simp [ChangeMaps.setBlock]
theorem Dict.congr {g : Value → Option Value} {s' : Nat} (h : Dict P k w b s f) (hs : s = s') (hfg : ∀ key kl, keyOf P k key = some kl → f key = g key) : Dict P k w b s' g := by
  subst hs
  obtain ⟨D, h1, h2, h3, h4⟩ := h.own
  exact ⟨⟨D, h1, h2, h3, fun key kl hk => by have := h4 key kl hk; rw [hfg key kl hk] at this; exact this⟩⟩
end

section
variable {P : Program} (w : World) {ops : Array Oper} {rest : List Oper} {o : Oper} {a : Act} {Q : Exit → Act → World → Prop}
end
end Go.Proofs.Ytoaiblhlpdaeoaa
/- Regions that draw their order, walked by hand: what only reads comes first. -/
namespace Go.Proofs.Ytoaiblhlpdaeoaa
open Go.RowKit Go.Maps

section
variable {P : Program} {ops : Array Oper} {Q : Exit → Act → World → Prop} {S : World → Prop} {md : Region.Mode}

theorem noPanic_mk {a : Act} {w : World} (h : Q .normal a w) : NoPanic Q .normal a w := h
/-- What an operation yields, leaving the world alone. -/
def Gives (P : Program) (o : Oper) (a : Act) (w : World) (v : Value) : Prop := (execOp a.eval o).run P w = .ok (.value v) w
theorem yi {o : Oper} {v : Value} {a : Act} (hg : Region.wanted o (yielded ops a.tmps) = true) (h : ∀ w, S w → Gives P o a w v) : YieldsIf P ops S o v a := .inl ⟨hg, h⟩

variable {o : Oper} {a : Act} {w : World}
theorem gives_move {x : Operand} {v : Value} (ho : o.op = .move x ∨ o.op = .assign x) (hx : a.eval x = v) : Gives P o a w v := by
  subst hx
  unfold Gives execOp
  rcases ho with ho | ho <;> rw [ho] <;> rfl
theorem gives_indexSlice {t e : TypeId} {m : Nat} {x y : Operand} {ad : Addr} {k n c : Nat} {q : IntKind} (ho : o.op = .indexAddr t x y) (ht : P.underlying t = some (.slice e)) (he : ∀ w, (sizeOf e).run P w = .ok m w) (hx : a.eval x = .slice (some ad) n c) (hy : a.eval y = .int q k) (hk : k < n) :
    Gives P o a w (.pointer (some (ad.add (k * m)))) := by
  unfold Gives execOp
  rw [ho]
  simp [hx, hy, Instr.indexAt, Sem.run_bind, asIntOf, run_underlying ht, Instr.sureAddr, he, hk, Result.andThen]
theorem gives_indexB {t e : TypeId} {m : Nat} {x y : Operand} {g k n c : Nat} {q : IntKind} (ho : o.op = .indexAddr t x y) (ht : P.underlying t = some (.slice e)) (he : ∀ w, (sizeOf e).run P w = .ok m w) (hx : a.eval x = .slice (some ⟨g, 0, none⟩) n c) (hy : a.eval y = .int q k) (hk : k < n) :
    Gives P o a w (.pointer (some ⟨g, k * m, none⟩)) := by
  have := gives_indexSlice (w := w) ho ht he hx hy hk
  rwa [show (⟨g, 0, none⟩ : Addr).add (k * m) = ⟨g, k * m, none⟩ by rw [Addr.add_mid]; simp] at this
theorem gives_load1 {t : TypeId} {x : Operand} {ad : Addr} {v : Value} (ho : o.op = .load t x) (h1 : (isAgg t).run P w = .ok false w) (hx : a.eval x = .pointer (some ad)) (hc : w.cell? ad = some v) : Gives P o a w v := by
  unfold Gives execOp
  rw [ho]
  simp [hx, Instr.loadAt, Instr.sureAddr, loadVar, Sem.run_bind, h1, hc, Result.andThen]
/-! ### what an operation does -/
theorem wp_gives {K : Act → World → Prop} {v : Value} (h : Gives P o a w v) (hK : K (a.put o.dst v) w) : o.wp P a w K Q := by
  unfold Oper.wp
  unfold Gives at h
  rw [h]
  exact hK
theorem wp_call {K : Act → World → Prop} {f : FuncId} {l : List Operand} {ts : Array TypeId} (al : List Value) (ho : o.op = .call { callee := .value (.func f), args := l.toArray, argTypes := ts }) (hx : l.map a.eval = al)
    (hcall : ∀ args w, (callFunc f args).run P w = .ok (.enter f args) w) (hev : a.eval (.func f) = .func (.func f) #[] #[])
    (h : Calls P f al.toArray w fun e w' => ∃ v, e = .returned v ∧ K (a.put o.dst v) w') : o.wp P a w K Q := by
  subst hx
  unfold Oper.wp execOp
  rw [ho]
  simp only [resolve, Deferred.ofValue, hev, invoke, Sem.run_bind, Result.andThen, Sem.run_pure, Array.empty_append, Array.append_empty, hcall, List.map_toArray]
  refine h.mono fun e w' ⟨v, he, hK⟩ => ?_
  subst he
  exact hK
theorem enters {f : FuncId} {fn : Func} (hf : P.funcs[f]? = some fn) (hname : (fn.name == "runtime.NumGoroutine") = false) (hb : fn.body.isSome = true) (args : Array Value) (w : World) :
    (callFunc f args).run P w = .ok (.enter f args) w := by
  obtain ⟨c, hc⟩ := Option.isSome_iff_exists.1 hb
  unfold callFunc
  rw [Sem.run_bind]
  simp [hf, hc, ne_of_beq_false hname]
end

/-! ### A region whose last operation may do anything: S is asked of the worlds before it alone. -/
section
variable {P : Program} {ops : Array Oper} {Q : Exit → Act → World → Prop} {S : World → Prop} {md : Region.Mode}

/-- Whatever order is picked from here on; behind each operation but number t, S holds. -/
def wpT (P : Program) (md : Region.Mode) (ops : Array Oper) (Q : Exit → Act → World → Prop) (S : World → Prop) (t : Nat) : Nat → Array Bool → Act → World → Prop
  | 0, listed, a, w => Region.ready md ops listed = [] ∧ Q .normal a w
  | fuel + 1, listed, a, w => (Region.ready md ops listed = [] → Q .normal a w) ∧
      ∀ i ∈ Region.ready md ops listed, wpOp P ops Q i (fun a' w' => (i ≠ t → S w') ∧ wpT P md ops Q S t fuel (listed.setIfInBounds i true) a' w') a w
theorem wpT_any {t : Nat} : ∀ (fuel : Nat) {listed : Array Bool} {a : Act} {w : World}, wpT P md ops Q S t fuel listed a w → wpAny P md ops Q fuel listed a w
  | 0, _, _, _, h => h
  | fuel + 1, _, _, _, h => ⟨h.1, fun i hi => wpOp_mono (fun _ _ h' => wpT_any fuel h'.2) (h.2 i hi)⟩

/-- What is listed has what it waits for listed. -/
def Cl (md : Region.Mode) (ops : Array Oper) (listed : Array Bool) : Prop := ∀ k ok, ops[k]? = some ok → listed.getD k false = true → ∀ e ∈ ok.after, Region.binds md e = true → listed.getD e.on false = true
theorem Cl.set {listed : Array Bool} {j : Nat} (h : Cl md ops listed) (hj : j ∈ Region.ready md ops listed) : Cl md ops (listed.setIfInBounds j true) := fun k ok hk hl e he hb => by
  obtain ⟨_, oj, hoj, hall⟩ := mem_ready.1 hj
  by_cases c : j = k
  · subst c
    rw [hoj] at hk
    injection hk with hk
    subst hk
    exact getD_set_true (hall e he hb)
  · rw [getD_set_ne false c] at hl
    exact getD_set_true (h k ok hk hl e he hb)
/-- Does operation t wait for i, by however many steps (at most n)? -/
def waitsB (md : Region.Mode) (ops : Array Oper) : Nat → Nat → Nat → Bool
  | 0, _, _ => false
  | n + 1, t, i => match ops[t]? with | some o => o.after.any fun e => Region.binds md e && (e.on == i || waitsB md ops n e.on i) | none => false
theorem waits_listed {listed : Array Bool} (h : Cl md ops listed) : ∀ (n t i : Nat), waitsB md ops n t i = true → listed.getD t false = true → listed.getD i false = true
  | 0, _, _, hw, _ => by cases hw
  | n + 1, t, i, hw, hl => by
    unfold waitsB at hw
    cases ho : ops[t]? with
    | none => rw [ho] at hw; cases hw
    | some o =>
      rw [ho] at hw
      simp only [Array.any_eq_true'] at hw
      obtain ⟨e, he, hb⟩ := hw
      rw [Bool.and_eq_true, Bool.or_eq_true] at hb
      have h1 := h t o ho hl e he hb.1
      rcases hb.2 with h2 | h2
      · rw [← beq_iff_eq.1 h2]; exact h1
      · exact waits_listed h n _ i h2 h1
theorem waits_ready {listed : Array Bool} (h : Cl md ops listed) {n t i : Nat} (hw : waitsB md ops n t i = true) (ht : t ∈ Region.ready md ops listed) : listed.getD i false = true := by
  obtain ⟨_, o, ho, hall⟩ := mem_ready.1 ht
  cases n with
  | zero => cases hw
  | succ n =>
    unfold waitsB at hw
    rw [ho] at hw
    simp only [Array.any_eq_true'] at hw
    obtain ⟨e, he, hb⟩ := hw
    rw [Bool.and_eq_true, Bool.or_eq_true] at hb
    have h1 := hall e he hb.1
    rcases hb.2 with h2 | h2
    · rw [← beq_iff_eq.1 h2]; exact h1
    · exact waits_listed h n _ i h2 h1
def closedB (md : Region.Mode) (ops : Array Oper) (listed : Array Bool) : Bool := (List.range ops.size).all fun k => !listed.getD k false || (match ops[k]? with | some o => o.after.all fun e => !Region.binds md e || listed.getD e.on false | none => true)
theorem closedB_spec {listed : Array Bool} (h : closedB md ops listed = true) : Cl md ops listed := fun k ok hk hl e he hb => by
  have hlt : k < ops.size := (Array.getElem?_eq_some_iff.1 hk).1
  have h1 := List.all_eq_true.1 h k (List.mem_range.2 hlt)
  rw [hk] at h1
  simp only [hl, Bool.not_true, Bool.false_or] at h1
  have h2 := (Array.all_eq_true_iff_forall_mem.1 h1) e he
  simpa [hb] using h2

/-- Operation i, which t waits for, is taken first. -/
theorem wpT_first {t i n : Nat} {oi : Oper} {v : Value} (hi : ops[i]? = some oi) (hw : waitsB md ops n t i = true) (hs : Region.noSelect ops = true)
    (hQ : ∀ c a w, Q (.panic c) (a.put oi.dst v) w → Q (.panic c) a w) : ∀ (fuel : Nat) (listed : Array Bool) (a : Act) (w : World), Cl md ops listed →
      (∀ j oj, ops[j]? = some oj → j ≠ i → listed.getD j true = false → (∀ e ∈ oj.after, Region.binds md e = true → e.on ≠ i) → oi.apart ops oj = true) →
      i ∈ Region.ready md ops listed → YieldsIf P ops S oi v a → S w →
      wpT P md ops Q S t fuel (listed.setIfInBounds i true) (a.put oi.dst v) w → wpT P md ops Q S t (fuel + 1) listed a w := by
  have hsel := Region.noSelect_spec hs
  intro fuel
  induction fuel with
  | zero =>
    intro listed a w _ _ hr hy hS H
    refine ⟨(fun h => by rw [h] at hr; cases hr), fun j hj => ?_⟩
    by_cases e : j = i
    · subst e
      exact hy.wpOp hi hS ⟨fun _ => hS, H⟩
    · have h0 := ready_mono hj e
      rw [H.1] at h0
      cases h0
  | succ fuel ih =>
    intro listed a w hcl hf hr hy hS H
    refine ⟨(fun h => by rw [h] at hr; cases hr), fun j hj => ?_⟩
    by_cases e : j = i
    · subst e
      exact hy.wpOp hi hS ⟨fun _ => hS, H⟩
    · obtain ⟨hun, oj, hoj, hall⟩ := mem_ready.1 hj
      have hiun : listed.getD i false = false := by
        have h0 := (mem_ready.1 hr).1
        rcases Nat.lt_or_ge i listed.size with h' | h'
        · simp [h'] at h0 ⊢; exact h0
        · simp [Array.getElem?_eq_none h']
      have hnw : ∀ e ∈ oj.after, Region.binds md e = true → e.on ≠ i := fun e he hb hon => by
        have := hall e he hb
        rw [hon, hiun] at this
        cases this
      have hjt : j ≠ t := by
        rintro rfl
        have := waits_ready hcl hw hj
        rw [hiun] at this
        cases this
      have h2 := wpOp_putIf hoj (hf j oj hoj e hun hnw) (fun cs b => hsel i oi cs b hi) (fun cs b => hsel j oj cs b hoj) hQ hy (H.2 j (ready_mono hj e))
      refine wpOp_mono (fun a' w' h3 => ⟨h3.2.1, ih (listed.setIfInBounds j true) a' w' (hcl.set hj) (fun k ok hk hki hun' hno => hf k ok hk hki ?_ hno) (ready_mono hr (Ne.symm e)) h3.1 (h3.2.1 hjt) ?_⟩) h2
      · by_cases hjk : j = k
        · subst hjk; exact hun
        · rw [getD_set_ne true hjk] at hun'; exact hun'
      · rw [Array.setIfInBounds_comm _ _ e]
        exact h3.2.2

theorem wpT_tk (i : Nat) {t : Nat} {d : Option Tmp} {op : Op} {ty : TypeId} {pos : String} {af : Array Edge} {gd : Option (Tmp × Bool)} {v : Value} {fuel : Nat} {listed : Array Bool} {a : Act} {w : World} (hi : ops[i]? = some ⟨d, op, ty, pos, af, gd⟩)
    (hs : Region.noSelect ops = true) (hf : Region.free md ops listed i = true) (hr : (Region.ready md ops listed).contains i = true) (hw : (waitsB md ops 20 t i && closedB md ops listed) = true)
    (hy : YieldsIf P ops S ⟨d, op, ty, pos, af, gd⟩ v a) (hS : S w)
    (h : wpT P md ops (NoPanic Q) S t fuel (listed.setIfInBounds i true) (a.put d v) w) : wpT P md ops (NoPanic Q) S t (fuel + 1) listed a w := by
  rw [Bool.and_eq_true] at hw
  exact wpT_first hi hw.1 hs (fun _ _ _ h => h) fuel listed a w (closedB_spec hw.2) (Region.free_spec hi hf) (by simpa using hr) hy hS h
theorem wpT_1 (i : Nat) {t : Nat} {d : Option Tmp} {op : Op} {ty : TypeId} {pos : String} {af : Array Edge} {fuel : Nat} {listed : Array Bool} {a : Act} {w : World} (ho : ops[i]? = some ⟨d, op, ty, pos, af, none⟩) (hr : Region.ready md ops listed = [i])
    (h : Oper.wp P ⟨d, op, ty, pos, af, none⟩ a w (fun a' w' => (i ≠ t → S w') ∧ wpT P md ops Q S t fuel (listed.setIfInBounds i true) a' w') Q) : wpT P md ops Q S t (fuel + 1) listed a w := by
  refine ⟨(fun h0 => by rw [hr] at h0; cases h0), fun j hj => ?_⟩
  rw [hr] at hj
  obtain rfl : j = i := by simpa using hj
  unfold wpOp
  have hg : Region.wanted (⟨d, op, ty, pos, af, none⟩ : Oper) (yielded ops a.tmps) = true := rfl
  simp only [ho, hg, if_true]
  exact .inl h
theorem wpT_done {t : Nat} {listed : Array Bool} {a : Act} {w : World} (hr : Region.ready md ops listed = []) (h : Q .normal a w) : ∀ fuel, wpT P md ops Q S t fuel listed a w
  | 0 => ⟨hr, h⟩
  | _ + 1 => ⟨fun _ => h, by rw [hr]; simp⟩
theorem wp_region_T {id : Nat} {a : Act} {w : World} (t : Nat) (hm : P.follows .mixedOrders = true) (hS : S w.drew)
    (h : S w.drew → wpT P .any ops (NoPanic Q) S t ops.size (Array.replicate ops.size false) a w.drew) : (Code.region id ops true).wp P Q a w :=
  wp_region_noPanic (wp_region_any hm (wpT_any _ (h hS)))

end
end Go.Proofs.Ytoaiblhlpdaeoaa
/- More facts of what an operation gives: for regions that draw their order, and for straight ones (wpList_gives). -/
namespace Go.Proofs.Ytoaiblhlpdaeoaa
set_option linter.unusedVariables false
set_option linter.unusedSimpArgs false
open Go.RowKit Go.Maps

section
variable {P : Program} {o : Oper} {a : Act} {w : World} {K : Act → World → Prop} {Q : Exit → Act → World → Prop} {ops : Array Oper} {rest : List Oper}
theorem wpList_gives (hg : o.guard = none) {v : Value} (h : Gives P o a w v) (hK : wpList P ops Q rest (a.put o.dst v) w) : wpList P ops Q (o :: rest) a w :=
  wpList_plain hg fun _ hK' => wp_gives h (hK' _ _ hK)
theorem no {S : World → Prop} {o : Oper} {a : Act} (hg : Region.wanted o (yielded ops a.tmps) = false) : YieldsIf P ops S o undef a := .inr ⟨hg, rfl⟩
theorem gives_add {x y : Operand} {ty : TypeId} {m k v : Int} (ho : o.op = .binOp .add 3 x y ty) (hx : a.eval x = .int .i64 m) (hy : a.eval y = .int .i64 k) (hz : IntKind.i64.wrap (m + k) = v) : Gives P o a w (.int .i64 v) := by
  subst hz
  unfold Gives execOp
  rw [ho]
  simp [hx, hy, eqGuard, binOp, Op.intArith, Sem.run_bind, Result.andThen]
theorem gives_sub {x y : Operand} {ty : TypeId} {m k v : Int} (ho : o.op = .binOp .sub 3 x y ty) (hx : a.eval x = .int .i64 m) (hy : a.eval y = .int .i64 k) (hz : IntKind.i64.wrap (m - k) = v) : Gives P o a w (.int .i64 v) := by
  subst hz
  unfold Gives execOp
  rw [ho]
  simp [hx, hy, eqGuard, binOp, Op.intArith, Sem.run_bind, Result.andThen]
/-! ### a part of a slice -/
end
/-- A slice stored into a cell. -/
theorem wp_storeS {P : Program} {o : Oper} {a : Act} {w : World} {K : Act → World → Prop} {Q : Exit → Act → World → Prop} {ty : TypeId} {x y : Operand} {ad : Addr} {A : Option Addr} {n c : Nat} {old : Value} (ho : o.op = .store ty x y) (h1 : (isAgg ty).run P w = .ok false w) (hsz : (sizeOf ty).run P w = .ok 1 w) (hx : a.eval x = .pointer (some ad)) (hy : a.eval y = .slice A n c)
    (hc : w.cell? ad = some old) (hf : w.frozen? ad = false) (hK : K (a.put o.dst undef) (w.setCell ad (.slice A n c))) : o.wp P a w K Q := by
  unfold Oper.wp execOp
  rw [ho]
  simp only [hx, hy, Instr.storeAt, Instr.sureAddr, Sem.run_bind, Sem.run_pure, Result.andThen_ok]
  have e0 : ad.add 0 = ad := by unfold Addr.add; simp
  simp [storeVar, Sem.run_bind, h1, hsz, Value.cells, storeCells, run_store_slice, stored, e0, hc, hf, Result.andThen]
  exact hK
end Go.Proofs.Ytoaiblhlpdaeoaa
/- Words in free groups: the reduced form. Letters are integers; -x is the inverse of x. -/
namespace Go.Proofs.Ytoaiblhlpdaeoaa
set_option linter.unusedVariables false
set_option linter.unusedSimpArgs false

/-- A letter in front of a reduced word. -/
def cns (x : Int) : List Int → List Int
  | [] => [x]
  | y :: t => if x = -y then t else x :: y :: t
theorem cns_cons (x y : Int) (t : List Int) : cns x (y :: t) = if x = -y then t else x :: y :: t := rfl
/-- The letters of a word act on a reduced word. -/
def act (w r : List Int) : List Int := w.foldr cns r
/-- The reduced form. -/
def nf (w : List Int) : List Int := act w []
/-- No letter is followed by its inverse. -/
def Red : List Int → Prop
  | [] => True
  | [_] => True
  | x :: y :: t => x ≠ -y ∧ Red (y :: t)
theorem Red.tail {x : Int} {r : List Int} (h : Red (x :: r)) : Red r := by
  cases r with
  | nil => trivial
  | cons y t => exact h.2
theorem Red.cons {x y : Int} {t : List Int} (h : Red (y :: t)) (hne : x ≠ -y) : Red (x :: y :: t) := ⟨hne, h⟩
theorem cns_red {x : Int} {r : List Int} (h : Red r) : Red (cns x r) := by
  cases r with
  | nil => trivial
  | cons y t =>
    rw [cns_cons]
    by_cases e : x = -y
    · rw [if_pos e]; exact h.tail
    · rw [if_neg e]; exact ⟨e, h⟩
theorem act_red {w r : List Int} (h : Red r) : Red (act w r) := by
  induction w with
  | nil => exact h
  | cons x w ih => exact cns_red ih
theorem nf_red (w : List Int) : Red (nf w) := act_red trivial
theorem cns_of_red {x : Int} {r : List Int} (h : Red (x :: r)) : cns x r = x :: r := by
  cases r with
  | nil => rfl
  | cons y t => rw [cns_cons, if_neg h.1]
theorem nf_of_red : ∀ {r : List Int}, Red r → nf r = r
  | [], _ => rfl
  | x :: r, h => by
    show cns x (nf r) = x :: r
    rw [nf_of_red h.tail, cns_of_red h]
theorem nf_nf (w : List Int) : nf (nf w) = nf w := nf_of_red (nf_red w)
theorem cns_cancel (x : Int) {r : List Int} (h : Red r) : cns x (cns (-x) r) = r := by
  cases r with
  | nil => simp [cns]
  | cons y t =>
    by_cases e : -x = -y
    · have e' : x = y := by omega
      subst e'
      rw [cns_cons, if_pos rfl]
      exact cns_of_red h
    · have e1 : cns (-x) (y :: t) = -x :: y :: t := by rw [cns_cons, if_neg e]
      rw [e1, cns_cons, if_pos (by omega)]
theorem cns_cancel' (x : Int) {r : List Int} (h : Red r) : cns (-x) (cns x r) = r := by
  have := cns_cancel (-x) h
  rwa [Int.neg_neg] at this
theorem act_append (a b r : List Int) : act (a ++ b) r = act a (act b r) := by simp [act]
theorem nf_append (a b : List Int) : nf (a ++ b) = act a (nf b) := act_append a b []
theorem act_cons (x : Int) (a r : List Int) : act (x :: a) r = cns x (act a r) := rfl
theorem act_nf {a r : List Int} (h : Red r) : act (nf a) r = act a r := by
  induction a with
  | nil => rfl
  | cons x a ih =>
    rw [act_cons, ← ih]
    show act (cns x (nf a)) r = _
    cases hn : nf a with
    | nil => rfl
    | cons y t =>
      rw [cns_cons]
      by_cases e : x = -y
      · rw [if_pos e, act_cons, e, cns_cancel' y (act_red h)]
      · rw [if_neg e]; rfl
theorem nf_left (a b : List Int) : nf (nf a ++ b) = nf (a ++ b) := by rw [nf_append, nf_append, act_nf (nf_red b)]
theorem nf_right (a b : List Int) : nf (a ++ nf b) = nf (a ++ b) := by rw [nf_append, nf_append, nf_nf]
theorem nf_mid (a b c : List Int) : nf (a ++ nf b ++ c) = nf (a ++ b ++ c) := by
  rw [List.append_assoc, ← nf_right, nf_left, nf_right, List.append_assoc]
/-- The inverse word. -/
def invw (w : List Int) : List Int := (w.map fun x => -x).reverse
theorem invw_length (w : List Int) : (invw w).length = w.length := by simp [invw]
theorem invw_invw (w : List Int) : invw (invw w) = w := by simp [invw, Function.comp_def]
theorem invw_append (a b : List Int) : invw (a ++ b) = invw b ++ invw a := by simp [invw]
theorem invw_cons (x : Int) (a : List Int) : invw (x :: a) = invw a ++ [-x] := by simp [invw]
theorem act_invw (w : List Int) {r : List Int} (h : Red r) : act w (act (invw w) r) = r := by
  induction w generalizing r with
  | nil => rfl
  | cons x w ih =>
    rw [invw_cons, act_append, act_cons, ih (r := act [-x] r) (act_red h)]
    exact cns_cancel x h
theorem nf_mul_inv (w : List Int) : nf (w ++ invw w) = [] := by rw [nf_append]; exact act_invw w (r := []) trivial
theorem nf_inv_mul (w : List Int) : nf (invw w ++ w) = [] := by
  have := nf_mul_inv (invw w)
  rwa [invw_invw] at this

/-! ### deletions -/
/-- A pair of adjacent inverse letters is deleted. -/
def Del (a b : List Int) : Prop := ∃ p x s, a = p ++ x :: -x :: s ∧ b = p ++ s
inductive Dels : List Int → List Int → Prop
  | refl (a : List Int) : Dels a a
  | step {a b c : List Int} : Del a b → Dels b c → Dels a c
theorem Del.nf_eq {a b : List Int} (h : Del a b) : nf a = nf b := by
  obtain ⟨p, x, s, rfl, rfl⟩ := h
  rw [nf_append, nf_append]
  congr 1
  show cns x (cns (-x) (nf s)) = _
  rw [cns_cancel x (nf_red s)]
theorem Dels.nf_eq {a b : List Int} (h : Dels a b) : nf a = nf b := by
  induction h with
  | refl => rfl
  | step h _ ih => exact h.nf_eq.trans ih
theorem Dels.trans {a b c : List Int} (h : Dels a b) (h' : Dels b c) : Dels a c := by
  induction h with
  | refl => exact h'
  | step d _ ih => exact .step d (ih h')
theorem Del.app {a b : List Int} (h : Del a b) (p s : List Int) : Del (p ++ a ++ s) (p ++ b ++ s) := by
  obtain ⟨q, x, t, rfl, rfl⟩ := h
  exact ⟨p ++ q, x, t ++ s, by simp, by simp⟩
theorem Dels.app {a b : List Int} (h : Dels a b) (p s : List Int) : Dels (p ++ a ++ s) (p ++ b ++ s) := by
  induction h with
  | refl => exact .refl _
  | step d _ ih => exact .step (d.app p s) ih
theorem dels_nf : ∀ w : List Int, Dels w (nf w)
  | [] => .refl _
  | x :: w => by
    have h := (dels_nf w).app [x] []
    simp only [List.append_nil, List.singleton_append] at h
    refine h.trans ?_
    show Dels (x :: nf w) (cns x (nf w))
    cases hn : nf w with
    | nil => exact .refl _
    | cons y t =>
      rw [cns_cons]
      by_cases e : x = -y
      · rw [if_pos e]
        exact .step ⟨[], x, t, by rw [e]; simp, rfl⟩ (.refl _)
      · rw [if_neg e]; exact .refl _
/-- What is left of deletions, if it is reduced, is the reduced form. -/
theorem Dels.done {a b : List Int} (h : Dels a b) (hr : Red b) : b = nf a := by rw [h.nf_eq, nf_of_red hr]
theorem Del.reverse {a b : List Int} (h : Del a b) : Del a.reverse b.reverse := by
  obtain ⟨p, x, s, rfl, rfl⟩ := h
  exact ⟨s.reverse, -x, p.reverse, by simp, by simp⟩
theorem Dels.reverse {a b : List Int} (h : Dels a b) : Dels a.reverse b.reverse := by
  induction h with
  | refl => exact .refl _
  | step d _ ih => exact .step d.reverse ih
theorem red_iff {r : List Int} : Red r ↔ ∀ i, i + 1 < r.length → r.getD i 0 ≠ -r.getD (i + 1) 0 := by
  induction r with
  | nil => exact ⟨fun _ i h => by simp at h, fun _ => trivial⟩
  | cons x r ih =>
    cases r with
    | nil => exact ⟨fun _ i h => by simp at h, fun _ => trivial⟩
    | cons y t =>
      constructor
      · rintro ⟨h1, h2⟩ i hi
        cases i with
        | zero => simpa using h1
        | succ i => have := ih.1 h2 i (by simpa using hi); simpa using this
      · intro h
        refine ⟨by have := h 0 (by simp); simpa using this, ih.2 fun i hi => ?_⟩
        have := h (i + 1) (by simpa using hi)
        simpa using this
theorem Red.reverse {r : List Int} (h : Red r) : Red r.reverse := by
  rw [red_iff] at h ⊢
  intro i hi
  rw [List.length_reverse] at hi
  have := h (r.length - 2 - i) (by omega)
  have e1 : r.reverse.getD i 0 = r.getD (r.length - 2 - i + 1) 0 := by
    simp only [List.getD]
    rw [List.getElem?_reverse (by omega), show r.length - 1 - i = r.length - 2 - i + 1 by omega]
  have e2 : r.reverse.getD (i + 1) 0 = r.getD (r.length - 2 - i) 0 := by
    simp only [List.getD]
    rw [List.getElem?_reverse (by omega), show r.length - 1 - (i + 1) = r.length - 2 - i by omega]
  rw [e1, e2]
  intro e
  apply this
  omega
theorem Red.neg {r : List Int} (h : Red r) : Red (r.map fun x => -x) := by
  induction r with
  | nil => trivial
  | cons x r ih =>
    cases r with
    | nil => trivial
    | cons y t => exact ⟨fun e => h.1 (by simp only at e; omega), ih h.2⟩
theorem Red.invw {r : List Int} (h : Red r) : Red (invw r) := h.neg.reverse
theorem nf_invw (w : List Int) : nf (invw w) = invw (nf w) := by
  have h1 : nf (invw w ++ nf w) = [] := by rw [nf_right]; exact nf_inv_mul w
  have h2 : nf (nf (invw w ++ nf w) ++ invw (nf w)) = nf (invw w) := by
    rw [nf_left, List.append_assoc, ← nf_right, nf_mul_inv, List.append_nil]
  rw [h1, List.nil_append] at h2
  rw [← h2, nf_of_red (nf_red w).invw]
theorem nf_len_le (w : List Int) : (nf w).length ≤ w.length := by
  induction w with
  | nil => exact Nat.le_refl _
  | cons x w ih =>
    show (cns x (nf w)).length ≤ _
    cases hn : nf w with
    | nil => simp [cns]
    | cons y t =>
      rw [hn] at ih
      rw [cns_cons]
      split
      · simp at ih ⊢; omega
      · simp at ih ⊢; omega
theorem nf_mem {w : List Int} {x : Int} (h : x ∈ nf w) : x ∈ w := by
  induction w with
  | nil => exact h
  | cons y w ih =>
    have h' : x ∈ cns y (nf w) := h
    cases hn : nf w with
    | nil => rw [hn] at h'; simp [cns] at h'; simp [h']
    | cons z t =>
      rw [hn] at h' ih
      rw [cns_cons] at h'
      split at h'
      · exact List.mem_cons_of_mem _ (ih (List.mem_cons_of_mem _ h'))
      · rcases List.mem_cons.1 h' with e | h'
        · simp [e]
        · exact List.mem_cons_of_mem _ (ih h')
end Go.Proofs.Ytoaiblhlpdaeoaa
/- Words in free groups: powers and roots; the cyclically reduced part. -/
namespace Go.Proofs.Ytoaiblhlpdaeoaa
set_option linter.unusedVariables false
set_option linter.unusedSimpArgs false

/-- d, k times. -/
def rep (d : List Int) (k : Nat) : List Int := (List.replicate k d).flatten
theorem rep_zero (d : List Int) : rep d 0 = [] := rfl
theorem rep_succ (d : List Int) (k : Nat) : rep d (k + 1) = d ++ rep d k := by simp [rep, List.replicate_succ]
theorem rep_one (d : List Int) : rep d 1 = d := by simp [rep_succ, rep_zero]
theorem rep_length (d : List Int) (k : Nat) : (rep d k).length = k * d.length := by
  induction k with
  | zero => simp [rep_zero]
  | succ k ih => rw [rep_succ, List.length_append, ih, Nat.succ_mul]; omega
theorem rep_add (d : List Int) (j k : Nat) : rep d (j + k) = rep d j ++ rep d k := by
  induction j with
  | zero => simp [rep_zero]
  | succ j ih => rw [show j + 1 + k = j + k + 1 by omega, rep_succ, rep_succ, ih, List.append_assoc]
theorem rep_rep (d : List Int) (j k : Nat) : rep (rep d j) k = rep d (j * k) := by
  induction k with
  | zero => simp [rep_zero]
  | succ k ih => rw [rep_succ, ih, Nat.mul_succ, Nat.add_comm, rep_add]
theorem rep_getD (d : List Int) : ∀ (k i : Nat), i < k * d.length → (rep d k).getD i 0 = d.getD (i % d.length) 0
  | 0, i, h => by omega
  | k + 1, i, h => by
    have hd : 0 < d.length := by
      rcases Nat.eq_zero_or_pos d.length with e | e
      · rw [e] at h; omega
      · exact e
    rw [rep_succ]
    simp only [List.getD]
    by_cases hi : i < d.length
    · rw [List.getElem?_append_left hi, Nat.mod_eq_of_lt hi]
    · rw [List.getElem?_append_right (by omega)]
      have := rep_getD d k (i - d.length) (by rw [Nat.succ_mul] at h; omega)
      simp only [List.getD] at this
      rw [this, ← Nat.mod_eq_sub_mod (by omega)]
theorem list_extI {a b : List Int} (hl : a.length = b.length) (h : ∀ i, i < a.length → a.getD i 0 = b.getD i 0) : a = b := by
  refine List.ext_getElem hl fun i h1 h2 => ?_
  have := h i h1
  simpa [List.getD, List.getElem?_eq_getElem h1, List.getElem?_eq_getElem h2] using this
/-- A word that a rotation by p leaves as it is. -/
def Per (W : List Int) (p : Nat) : Prop := ∀ i, i < W.length → W.getD ((i + p) % W.length) 0 = W.getD i 0
theorem Per.sub {W : List Int} {p q : Nat} (hp : Per W p) (hq : Per W q) (h : q ≤ p) : Per W (p - q) := by
  intro i hi
  have hL : 0 < W.length := by omega
  have h1 := hq ((i + (p - q)) % W.length) (Nat.mod_lt _ hL)
  rw [Nat.mod_add_mod, show i + (p - q) + q = i + p by omega, hp i hi] at h1
  exact h1.symm
theorem Per.gcd {W : List Int} : ∀ (n p q : Nat), p + q ≤ n → Per W p → Per W q → Per W (Nat.gcd p q)
  | 0, p, q, h, hp, hq => by
    obtain ⟨rfl, rfl⟩ : p = 0 ∧ q = 0 := by omega
    exact hp
  | n + 1, p, q, h, hp, hq => by
    rcases Nat.eq_zero_or_pos q with rfl | hq0
    · simpa using hp
    · rcases Nat.eq_zero_or_pos p with rfl | hp0
      · simpa using hq
      · by_cases hle : q ≤ p
        · have := Per.gcd n (p - q) q (by omega) (hp.sub hq hle) hq
          rwa [Nat.gcd_sub_self_left hle] at this
        · have := Per.gcd n p (q - p) (by omega) hp (hq.sub hp (by omega))
          rwa [Nat.gcd_sub_self_right (by omega)] at this
theorem Per.mod {W : List Int} {p : Nat} (hp : Per W p) (hp0 : 0 < p) : ∀ i, i < W.length → W.getD i 0 = W.getD (i % p) 0 := by
  intro i
  induction i using Nat.strongRecOn with
  | _ i ih =>
    intro hi
    by_cases h : i < p
    · rw [Nat.mod_eq_of_lt h]
    · have h1 := hp (i - p) (by omega)
      rw [show i - p + p = i by omega, Nat.mod_eq_of_lt hi] at h1
      rw [h1, ih (i - p) (by omega) (by omega), ← Nat.mod_eq_sub_mod (by omega)]
theorem Per.rep {W : List Int} {p : Nat} (hp : Per W p) (hp0 : 0 < p) (hd : p ∣ W.length) : W = rep (W.take p) (W.length / p) := by
  have hl : (W.take p).length = min p W.length := by simp
  rcases Nat.eq_zero_or_pos W.length with h0 | h0
  · rw [List.eq_nil_of_length_eq_zero h0]; simp [rep_zero]
  · have hle : p ≤ W.length := Nat.le_of_dvd h0 hd
    have hlp : (W.take p).length = p := by rw [hl]; omega
    refine list_extI (by rw [rep_length, hlp, Nat.div_mul_cancel hd]) fun i hi => ?_
    rw [rep_getD _ _ _ (by rw [hlp, Nat.div_mul_cancel hd]; exact hi), hlp, hp.mod hp0 i hi]
    simp only [List.getD]
    rw [List.getElem?_take, if_pos (Nat.mod_lt _ hp0)]
theorem rep_per (d : List Int) (k : Nat) : Per (rep d k) d.length := by
  intro i hi
  rw [rep_length] at hi ⊢
  have hd : 0 < d.length := by
    rcases Nat.eq_zero_or_pos d.length with e | e
    · rw [e] at hi; omega
    · exact e
  have hL : 0 < k * d.length := by omega
  rw [rep_getD d k _ (Nat.mod_lt _ hL), rep_getD d k i hi, Nat.mod_mul_left_mod, Nat.add_mod_right]
/-- d is the root of c, and k its exponent. -/
structure IsRoot (c d : List Int) (k : Nat) : Prop where
  eq : c = rep d k
  max : ∀ e j, c = rep e j → j ≤ k
theorem IsRoot.pow {c d : List Int} {k m : Nat} (h : IsRoot c d k) (hc : c ≠ []) (hm : 0 < m) : IsRoot (rep c m) d (k * m) := by
  have hcl : 0 < c.length := List.length_pos_iff.2 hc
  have hcd : c.length = k * d.length := by rw [h.eq, rep_length]
  have hd0 : 0 < d.length := by
    rcases Nat.eq_zero_or_pos d.length with e | e
    · rw [e] at hcd; omega
    · exact e
  have hW : rep c m = rep d (k * m) := by rw [h.eq, rep_rep]
  refine ⟨hW, fun e j he => ?_⟩
  have hL : (rep c m).length = m * c.length := rep_length c m
  have hLe : (rep c m).length = j * e.length := by rw [he, rep_length]
  have hL0 : 0 < (rep c m).length := by rw [hL]; exact Nat.mul_pos hm hcl
  have he0 : 0 < e.length := by
    rcases Nat.eq_zero_or_pos e.length with e' | e'
    · rw [hLe, e'] at hL0; omega
    · exact e'
  have p1 : Per (rep c m) d.length := by rw [hW]; exact rep_per _ _
  have p2 : Per (rep c m) e.length := by rw [he]; exact rep_per _ _
  have pg := Per.gcd _ d.length e.length (Nat.le_refl _) p1 p2
  have hg0 : 0 < Nat.gcd d.length e.length := Nat.gcd_pos_of_pos_left _ hd0
  obtain ⟨a, ha⟩ := Nat.gcd_dvd_left d.length e.length
  have hgc : Nat.gcd d.length e.length ∣ c.length := Nat.dvd_trans (Nat.gcd_dvd_left _ _) ⟨k, by rw [hcd, Nat.mul_comm]⟩
  -- the root is a power of a word of the common length
  have pc : Per c (Nat.gcd d.length e.length) := by
    intro i hi
    have hcg : ∀ z, z < c.length → c.getD z 0 = (rep c m).getD z 0 := fun z hz => by
      rw [rep_getD c m z (Nat.lt_of_lt_of_le hz (Nat.le_mul_of_pos_left _ hm)), Nat.mod_eq_of_lt hz]
    have hgl : Nat.gcd d.length e.length ≤ c.length := Nat.le_of_dvd hcl hgc
    have hmod := pg.mod hg0
    rw [hcg _ (Nat.mod_lt _ hcl), hcg i hi, hmod _ (by rw [hL]; exact Nat.lt_of_lt_of_le (Nat.mod_lt _ hcl) (Nat.le_mul_of_pos_left _ hm)), hmod i (by rw [hL]; exact Nat.lt_of_lt_of_le hi (Nat.le_mul_of_pos_left _ hm)), Nat.mod_mod_of_dvd _ hgc, Nat.add_mod_right]
  have hk := h.max _ _ (pc.rep hg0 hgc)
  obtain ⟨g, hg⟩ : ∃ g, Nat.gcd d.length e.length = g := ⟨_, rfl⟩
  obtain ⟨b, hb⟩ := Nat.gcd_dvd_right d.length e.length
  rw [hg] at hk ha hb hg0
  have hk0 : 0 < k := by
    rcases Nat.eq_zero_or_pos k with e' | e'
    · rw [e'] at hcd; omega
    · exact e'
  have e1 : c.length / g = k * a := by
    rw [hcd, ha, Nat.mul_left_comm, Nat.mul_div_cancel_left _ hg0]
  rw [e1] at hk
  have ha1 : a = 1 := by
    rcases Nat.lt_or_ge a 2 with h1 | h1
    · rcases Nat.eq_zero_or_pos a with e' | e'
      · rw [e'] at ha; omega
      · omega
    · have : k * 2 ≤ k * a := Nat.mul_le_mul_left k h1
      omega
  rw [ha1, Nat.mul_one] at ha
  have hb0 : 0 < b := by
    rcases Nat.eq_zero_or_pos b with e' | e'
    · rw [e'] at hb; omega
    · exact e'
  have e2 : g * (j * b) = g * (k * m) := by
    have : j * e.length = m * (k * d.length) := by rw [← hLe, hL, hcd]
    rw [hb, ha] at this
    rw [Nat.mul_left_comm, this, Nat.mul_comm m, Nat.mul_assoc, Nat.mul_comm g m, ← Nat.mul_assoc, Nat.mul_comm (k * m)]
  have e3 := Nat.eq_of_mul_eq_mul_left hg0 e2
  rw [← e3]
  exact Nat.le_mul_of_pos_right _ hb0
theorem IsRoot.unique {c d d' : List Int} {k k' : Nat} (h : IsRoot c d k) (h' : IsRoot c d' k') (hc : c ≠ []) : d = d' ∧ k = k' := by
  have e : k = k' := Nat.le_antisymm (h'.max _ _ h.eq) (h.max _ _ h'.eq)
  subst e
  have hcl : 0 < c.length := List.length_pos_iff.2 hc
  have h1 : c.length = k * d.length := by rw [← rep_length, ← h.eq]
  have h2 : c.length = k * d'.length := by rw [← rep_length, ← h'.eq]
  have hk : 0 < k := by
    rcases Nat.eq_zero_or_pos k with e | e
    · rw [e] at h1; omega
    · exact e
  have hl : d.length = d'.length := Nat.eq_of_mul_eq_mul_left hk (by omega)
  refine ⟨list_extI hl fun i hi => ?_, rfl⟩
  have hik : i < k * d.length := Nat.lt_of_lt_of_le hi (Nat.le_mul_of_pos_left _ hk)
  have e1 := rep_getD d k i hik
  have e2 := rep_getD d' k i (by rw [← hl]; exact hik)
  rw [Nat.mod_eq_of_lt hi] at e1
  rw [← hl, Nat.mod_eq_of_lt hi] at e2
  rw [← e1, ← e2, ← h.eq, ← h'.eq]
/-! ### the cyclically reduced part -/
theorem ends {w : List Int} (h : 1 < w.length) : w = w.getD 0 0 :: (w.tail.dropLast ++ [w.getD (w.length - 1) 0]) := by
  obtain ⟨x, t, rfl⟩ : ∃ x t, w = x :: t := by
    cases w with
    | nil => simp at h
    | cons x t => exact ⟨x, t, rfl⟩
  rcases List.eq_nil_or_concat t with rfl | ⟨s, y, rfl⟩
  · simp at h
  · simp [List.getD]
theorem Red.append {a b : List Int} (ha : Red a) (hb : Red b) (h : a ≠ [] → b ≠ [] → a.getD (a.length - 1) 0 ≠ -b.getD 0 0) : Red (a ++ b) := by
  rw [red_iff] at ha hb ⊢
  intro i hi
  rw [List.length_append] at hi
  simp only [List.getD] at ha hb h ⊢
  by_cases h1 : i + 1 < a.length
  · rw [List.getElem?_append_left (by omega), List.getElem?_append_left h1]
    exact ha i h1
  · by_cases h2 : i + 1 = a.length
    · rw [List.getElem?_append_left (by omega), List.getElem?_append_right (by omega)]
      have := h (fun e => by rw [e] at h2; simp at h2) (fun e => by rw [e] at hi; simp at hi; omega)
      rwa [show a.length - 1 = i by omega, show (0 : Nat) = i + 1 - a.length by omega] at this
    · rw [List.getElem?_append_right (by omega), List.getElem?_append_right (by omega), show i + 1 - a.length = i - a.length + 1 by omega]
      exact hb (i - a.length) (by omega)
end Go.Proofs.Ytoaiblhlpdaeoaa
/- The Artin representation: letters act on reduced words. -/
namespace Go.Proofs.Ytoaiblhlpdaeoaa
set_option linter.unusedVariables false
set_option linter.unusedSimpArgs false

/-- The image of the generator of a letter z under the letter y. -/
def artV (y z : Int) : List Int :=
  if 0 < y then
    if z.natAbs = y.natAbs then [(y.natAbs : Int), (y.natAbs : Int) + 1, -(y.natAbs : Int)] else if z.natAbs = y.natAbs + 1 then [(y.natAbs : Int)] else [(z.natAbs : Int)]
  else
    if z.natAbs = y.natAbs then [(y.natAbs : Int) + 1] else if z.natAbs = y.natAbs + 1 then [-(y.natAbs : Int) - 1, (y.natAbs : Int), (y.natAbs : Int) + 1] else [(z.natAbs : Int)]
def artL (y z : Int) : List Int := if z < 0 then invw (artV y z) else artV y z
def artW (y : Int) (u : List Int) : List Int := u.flatMap (artL y)
/-- All letters of a braid word, one after another, without reducing. -/
def artC (w u : List Int) : List Int := w.foldl (fun u y => artW y u) u
/-- The same, reduced after each letter. -/
def artF (w u : List Int) : List Int := w.foldl (fun u y => nf (artW y u)) u
def nz (u : List Int) : Prop := ∀ z ∈ u, z ≠ 0
theorem nz.app {u v : List Int} (hu : nz u) (hv : nz v) : nz (u ++ v) := fun z h => (List.mem_append.1 h).elim (hu z) (hv z)
theorem nz.inv {u : List Int} (hu : nz u) : nz (invw u) := fun z h => by
  have : ∃ x ∈ u, -x = z := by simpa [invw] using h
  obtain ⟨x, hx, rfl⟩ := this
  have := hu x hx
  omega
theorem nz.nf {u : List Int} (hu : nz u) : nz (Proofs.Ytoaiblhlpdaeoaa.nf u) := fun z h => hu z (nf_mem h)
theorem artL_neg (y : Int) {z : Int} (hz : z ≠ 0) : artL y (-z) = invw (artL y z) := by
  have hv : artV y (-z) = artV y z := by unfold artV; rw [Int.natAbs_neg]
  unfold artL
  rw [hv]
  by_cases h : z < 0
  · rw [if_neg (by omega), if_pos h, invw_invw]
  · rw [if_pos (by omega), if_neg h]
theorem artV_nz {y z : Int} (hy : y ≠ 0) (hz : z ≠ 0) : nz (artV y z) := by
  unfold artV
  intro x hx
  split at hx <;> split at hx <;> (try split at hx) <;> simp at hx <;> omega
theorem artL_nz {y z : Int} (hy : y ≠ 0) (hz : z ≠ 0) : nz (artL y z) := by
  unfold artL
  split
  · exact (artV_nz hy hz).inv
  · exact artV_nz hy hz
theorem artW_append (y : Int) (u v : List Int) : artW y (u ++ v) = artW y u ++ artW y v := by simp [artW]
theorem artW_one (y z : Int) : artW y [z] = artL y z := by simp [artW]
theorem artW_cons (y z : Int) (u : List Int) : artW y (z :: u) = artL y z ++ artW y u := by simp [artW]
theorem artW_nz {y : Int} (hy : y ≠ 0) {u : List Int} (hu : nz u) : nz (artW y u) := fun x hx => by
  obtain ⟨z, hz, h⟩ := List.mem_flatMap.1 hx
  exact artL_nz hy (hu z hz) x h
theorem artW_invw (y : Int) : ∀ {u : List Int}, nz u → artW y (invw u) = invw (artW y u)
  | [], _ => rfl
  | z :: u, h => by
    rw [invw_cons, artW_append, artW_one, artL_neg y (h z (by simp)), artW_cons y z u, invw_append, artW_invw y (fun x hx => h x (by simp [hx]))]
theorem nf_drop_mid (p x s : List Int) : nf (p ++ x ++ invw x ++ s) = nf (p ++ s) := by
  have e : p ++ x ++ invw x ++ s = p ++ (x ++ invw x) ++ s := by simp
  rw [e, ← nf_mid, nf_mul_inv]
  simp
theorem del_artW (y : Int) {a b : List Int} (h : Del a b) (ha : nz a) : nf (artW y a) = nf (artW y b) := by
  obtain ⟨p, x, s, rfl, rfl⟩ := h
  have hx : x ≠ 0 := ha x (by simp)
  rw [artW_append, artW_append, artW_cons, artW_cons, artL_neg y hx]
  have e : artW y p ++ (artL y x ++ (invw (artL y x) ++ artW y s)) = artW y p ++ artL y x ++ invw (artL y x) ++ artW y s := by simp
  rw [e, nf_drop_mid]
theorem Del.nz {a b : List Int} (h : Del a b) (ha : Proofs.Ytoaiblhlpdaeoaa.nz a) : Proofs.Ytoaiblhlpdaeoaa.nz b := by
  obtain ⟨p, x, s, rfl, rfl⟩ := h
  intro z hz
  refine ha z ?_
  rcases List.mem_append.1 hz with h | h
  · simp [h]
  · simp [h]
theorem dels_artW (y : Int) {a b : List Int} (h : Dels a b) : nz a → nf (artW y a) = nf (artW y b) := by
  induction h with
  | refl => intro _; rfl
  | step d _ ih => intro ha; exact (del_artW y d ha).trans (ih (d.nz ha))
/-- What a letter does does not depend on how a word is written. -/
theorem nf_artW (y : Int) {u : List Int} (hu : nz u) : nf (artW y (nf u)) = nf (artW y u) := (dels_artW y (dels_nf u) hu).symm
theorem artW_congr (y : Int) {u v : List Int} (hu : nz u) (hv : nz v) (h : nf u = nf v) : nf (artW y u) = nf (artW y v) := by rw [← nf_artW y hu, h, nf_artW y hv]
theorem artC_append (w u v : List Int) : artC w (u ++ v) = artC w u ++ artC w v := by
  induction w generalizing u v with
  | nil => rfl
  | cons y w ih =>
    show artC w (artW y (u ++ v)) = artC w (artW y u) ++ artC w (artW y v)
    rw [artW_append, ih]
theorem artC_cons (y : Int) (w u : List Int) : artC (y :: w) u = artC w (artW y u) := rfl
theorem artC_app (a b u : List Int) : artC (a ++ b) u = artC b (artC a u) := by unfold artC; rw [List.foldl_append]
theorem artC_nil (w : List Int) : artC w [] = [] := by
  induction w with
  | nil => rfl
  | cons y w ih => exact ih
theorem artC_nz : ∀ {w u : List Int}, nz w → nz u → nz (artC w u)
  | [], u, _, hu => hu
  | y :: w, u, hw, hu => artC_nz (w := w) (fun x hx => hw x (by simp [hx])) (artW_nz (hw y (by simp)) hu)
theorem artC_invw : ∀ {w u : List Int}, nz w → nz u → artC w (invw u) = invw (artC w u)
  | [], _, _, _ => rfl
  | y :: w, u, hw, hu => by
    rw [artC_cons, artC_cons, artW_invw y hu, artC_invw (fun x hx => hw x (by simp [hx])) (artW_nz (hw y (by simp)) hu)]
theorem artC_congr : ∀ {w u v : List Int}, nz w → nz u → nz v → nf u = nf v → nf (artC w u) = nf (artC w v)
  | [], _, _, _, _, _, h => h
  | y :: w, u, v, hw, hu, hv, h => artC_congr (w := w) (fun x hx => hw x (by simp [hx])) (artW_nz (hw y (by simp)) hu) (artW_nz (hw y (by simp)) hv) (artW_congr y hu hv h)
/-- Reducing on the way changes nothing. -/
theorem artF_nf : ∀ {w u : List Int}, nz w → nz u → artF w (nf u) = nf (artC w u)
  | [], _, _, _ => rfl
  | y :: w, u, hw, hu => by
    show artF w (nf (artW y (nf u))) = nf (artC w (artW y u))
    rw [nf_artW y hu]
    exact artF_nf (fun x hx => hw x (by simp [hx])) (artW_nz (hw y (by simp)) hu)
/-- Braid words that act alike. -/
def RelA (a b : List Int) : Prop := ∀ u, nz u → nf (artC a u) = nf (artC b u)
theorem RelA.symm {a b : List Int} (h : RelA a b) : RelA b a := fun u hu => (h u hu).symm
theorem RelA.mid {a b : List Int} (h : RelA a b) (ha : nz a) (hb : nz b) {p s : List Int} (hp : nz p) (hs : nz s) : RelA (p ++ a ++ s) (p ++ b ++ s) := fun u hu => by
  rw [artC_app, artC_app, artC_app, artC_app]
  have h1 := artC_nz hp hu
  exact artC_congr hs (artC_nz ha h1) (artC_nz hb h1) (h _ h1)
theorem artV_other {y z : Int} (h1 : z.natAbs ≠ y.natAbs) (h2 : z.natAbs ≠ y.natAbs + 1) : artV y z = [(z.natAbs : Int)] := by
  unfold artV
  by_cases h : 0 < y
  · rw [if_pos h, if_neg h1, if_neg h2]
  · rw [if_neg h, if_neg h1, if_neg h2]
theorem artL_o {y : Int} {k : Nat} (h1 : k ≠ y.natAbs) (h2 : k ≠ y.natAbs + 1) : artL y (k : Int) = [(k : Int)] := by
  unfold artL
  rw [if_neg (by omega), artV_other (by omega) (by omega), Int.natAbs_natCast]
end Go.Proofs.Ytoaiblhlpdaeoaa
/- Commutative rings of my own, and finite sums. -/
namespace Go.Proofs.Ytoaiblhlpdaeoaa
set_option linter.unusedVariables false
set_option linter.unusedSimpArgs false

/-- A commutative ring. -/
class CR (R : Type) extends Add R, Mul R, Neg R, Zero R, One R where
  add_assoc : ∀ a b c : R, a + b + c = a + (b + c)
  add_comm : ∀ a b : R, a + b = b + a
  zero_add : ∀ a : R, 0 + a = a
  neg_add : ∀ a : R, -a + a = 0
  mul_assoc : ∀ a b c : R, a * b * c = a * (b * c)
  mul_comm : ∀ a b : R, a * b = b * a
  one_mul : ∀ a : R, 1 * a = a
  mul_add : ∀ a b c : R, a * (b + c) = a * b + a * c

instance : CR Int where
  add_assoc := Int.add_assoc
  add_comm := Int.add_comm
  zero_add := Int.zero_add
  neg_add := Int.add_left_neg
  mul_assoc := Int.mul_assoc
  mul_comm := Int.mul_comm
  one_mul := Int.one_mul
  mul_add := Int.mul_add

namespace CR
section
variable {R : Type} [CR R]
instance : Std.Associative (α := R) (· + ·) := ⟨add_assoc⟩
instance : Std.Commutative (α := R) (· + ·) := ⟨add_comm⟩
instance : Std.Associative (α := R) (· * ·) := ⟨mul_assoc⟩
instance : Std.Commutative (α := R) (· * ·) := ⟨mul_comm⟩
theorem add_zero (a : R) : a + 0 = a := by rw [add_comm, zero_add]
theorem add_neg (a : R) : a + -a = 0 := by rw [add_comm, neg_add]
theorem mul_one (a : R) : a * 1 = a := by rw [mul_comm, one_mul]
theorem add_mul (a b c : R) : (a + b) * c = a * c + b * c := by rw [mul_comm, mul_add, mul_comm c, mul_comm c]
theorem add_left_cancel {a b c : R} (h : a + b = a + c) : b = c := by
  have h2 := congrArg (fun x => -a + x) h
  simp only [← add_assoc, neg_add, zero_add] at h2
  exact h2
theorem mul_zero (a : R) : a * 0 = 0 := by
  have h : a * 0 + a * 0 = a * 0 + 0 := by rw [← mul_add, add_zero, add_zero]
  exact add_left_cancel h
theorem zero_mul (a : R) : 0 * a = 0 := by rw [mul_comm, mul_zero]
theorem eq_neg_of_add {a b : R} (h : a + b = 0) : a = -b := by
  have h2 := congrArg (fun x => x + -b) h
  simp only [add_assoc, add_neg, zero_add, add_zero] at h2
  exact h2
theorem neg_mul (a b : R) : -a * b = -(a * b) := eq_neg_of_add (by rw [← add_mul, neg_add, zero_mul])
theorem neg_neg (a : R) : -(-a) = a := (eq_neg_of_add (add_neg a)).symm
/-! ### sums -/
def sumN : Nat → (Nat → R) → R
  | 0, _ => 0
  | n + 1, f => sumN n f + f n
theorem sumN_zero (f : Nat → R) : sumN 0 f = 0 := rfl
theorem sumN_succ (n : Nat) (f : Nat → R) : sumN (n + 1) f = sumN n f + f n := rfl
theorem sumN_congr {f g : Nat → R} : ∀ {n : Nat}, (∀ i, i < n → f i = g i) → sumN n f = sumN n g
  | 0, _ => rfl
  | n + 1, h => by rw [sumN_succ, sumN_succ, sumN_congr fun i hi => h i (by omega), h n (by omega)]
theorem sumN_mul (c : R) (f : Nat → R) : ∀ n, sumN n (fun i => c * f i) = c * sumN n f
  | 0 => by rw [sumN_zero, sumN_zero, mul_zero]
  | n + 1 => by rw [sumN_succ, sumN_succ, sumN_mul, mul_add]
theorem sumN_none {f : Nat → R} : ∀ {n : Nat}, (∀ i, i < n → f i = 0) → sumN n f = 0
  | 0, _ => rfl
  | n + 1, h => by rw [sumN_succ, sumN_none fun i hi => h i (by omega), h n (by omega), zero_add]
theorem sumN_single {f : Nat → R} : ∀ {n k : Nat}, k < n → (∀ i, i < n → i ≠ k → f i = 0) → sumN n f = f k
  | n + 1, k, hk, h => by
    rw [sumN_succ]
    by_cases e : k = n
    · subst e
      rw [sumN_none fun i hi => h i (by omega) (by omega), zero_add]
    · rw [sumN_single (by omega : k < n) fun i hi hne => h i (by omega) hne, h n (by omega) (by omega), add_zero]
/-- The numbers but j. -/
def skip (j b : Nat) : Nat := if b < j then b else b + 1
/-- The sign of a number. -/
def sgR (R : Type) [CR R] (j : Nat) : R := if j % 2 = 0 then 1 else -1
theorem sgR_zero : sgR R 0 = 1 := rfl
theorem sgR_succ (j : Nat) : sgR R (j + 1) = -sgR R j := by
  unfold sgR
  by_cases h : j % 2 = 0
  · rw [if_pos h, if_neg (by omega)]
  · rw [if_neg h, if_pos (by omega), neg_neg]
end
end CR
end Go.Proofs.Ytoaiblhlpdaeoaa
/- Laurent polynomials with integer coefficients: a commutative ring. -/
namespace Go.Proofs.Ytoaiblhlpdaeoaa
set_option linter.unusedVariables false
set_option linter.unusedSimpArgs false

/-! ### lists of terms: exponent and coefficient -/
abbrev Tm := Int × Int
def sumT : List Tm → (Int → Int → Int) → Int
  | [], _ => 0
  | (e, c) :: l, F => F e c + sumT l F
theorem sumT_append (F : Int → Int → Int) : ∀ a b : List Tm, sumT (a ++ b) F = sumT a F + sumT b F
  | [], b => by simp [sumT]
  | (e, c) :: a, b => by show F e c + sumT (a ++ b) F = _; rw [sumT_append F a b]; show _ = F e c + sumT a F + sumT b F; omega
theorem sumT_congr {F G : Int → Int → Int} : ∀ {l : List Tm}, (∀ e c, (e, c) ∈ l → F e c = G e c) → sumT l F = sumT l G
  | [], _ => rfl
  | (e, c) :: l, h => by show F e c + sumT l F = G e c + sumT l G; rw [h e c (by simp), sumT_congr fun e c hm => h e c (by simp [hm])]
theorem sumT_zero : ∀ l : List Tm, sumT l (fun _ _ => 0) = 0
  | [] => rfl
  | (e, c) :: l => by show 0 + sumT l _ = 0; rw [sumT_zero l]; rfl
theorem sumT_add (F G : Int → Int → Int) : ∀ l : List Tm, sumT l (fun e c => F e c + G e c) = sumT l F + sumT l G
  | [] => rfl
  | (e, c) :: l => by show F e c + G e c + sumT l _ = F e c + sumT l F + (G e c + sumT l G); rw [sumT_add F G l]; omega
theorem sumT_mul (a : Int) (F : Int → Int → Int) : ∀ l : List Tm, sumT l (fun e c => a * F e c) = a * sumT l F
  | [] => by simp [sumT]
  | (e, c) :: l => by show a * F e c + sumT l _ = a * (F e c + sumT l F); rw [sumT_mul a F l, Int.mul_add]
theorem sumT_swap (G : Int → Int → Int → Int → Int) (b : List Tm) : ∀ a : List Tm, sumT a (fun e c => sumT b fun f d => G e c f d) = sumT b fun f d => sumT a fun e c => G e c f d
  | [] => (sumT_zero b).symm
  | (e, c) :: a => by
    show sumT b (fun f d => G e c f d) + sumT a _ = _
    rw [sumT_swap G b a, ← sumT_add]
    rfl
theorem sumT_map (g : Tm → Tm) (F : Int → Int → Int) : ∀ l : List Tm, sumT (l.map g) F = sumT l fun e c => F (g (e, c)).1 (g (e, c)).2
  | [] => rfl
  | (e, c) :: l => by show F _ _ + sumT (l.map g) F = _; rw [sumT_map g F l]; rfl
/-- The coefficient at an exponent. -/
def coefT (l : List Tm) (k : Int) : Int := sumT l fun e c => if e = k then c else 0
theorem coefT_append (a b : List Tm) (k : Int) : coefT (a ++ b) k = coefT a k + coefT b k := sumT_append _ a b
def scaleT (e c : Int) (l : List Tm) : List Tm := l.map fun x => (e + x.1, c * x.2)
theorem coefT_scale (e c : Int) (l : List Tm) (k : Int) : coefT (scaleT e c l) k = c * coefT l (k - e) := by
  unfold coefT scaleT
  rw [sumT_map, ← sumT_mul]
  refine sumT_congr fun f d _ => ?_
  show (if e + f = k then c * d else 0) = c * if f = k - e then d else 0
  by_cases h : e + f = k
  · rw [if_pos h, if_pos (by omega)]
  · rw [if_neg h, if_neg (by omega), Int.mul_zero]
def mulT (a b : List Tm) : List Tm := a.flatMap fun x => scaleT x.1 x.2 b
theorem mulT_cons (x : Tm) (a b : List Tm) : mulT (x :: a) b = scaleT x.1 x.2 b ++ mulT a b := rfl
theorem coefT_mul (b : List Tm) (k : Int) : ∀ a : List Tm, coefT (mulT a b) k = sumT a fun e c => c * coefT b (k - e)
  | [] => rfl
  | (e, c) :: a => by
    rw [mulT_cons, coefT_append, coefT_scale, coefT_mul b k a]
    rfl
theorem coefT_mul' (a b : List Tm) (k : Int) : coefT (mulT a b) k = sumT b fun f d => d * coefT a (k - f) := by
  rw [coefT_mul]
  have h1 : (sumT a fun e c => c * coefT b (k - e)) = sumT a fun e c => sumT b fun f d => if e + f = k then c * d else 0 := sumT_congr fun e c _ => by
    unfold coefT
    rw [← sumT_mul]
    exact sumT_congr fun f d _ => by
      by_cases h : e + f = k
      · rw [if_pos h, if_pos (by omega)]
      · rw [if_neg h, if_neg (by omega), Int.mul_zero]
  have h2 : (sumT b fun f d => d * coefT a (k - f)) = sumT b fun f d => sumT a fun e c => if e + f = k then c * d else 0 := sumT_congr fun f d _ => by
    unfold coefT
    rw [← sumT_mul]
    exact sumT_congr fun e c _ => by
      by_cases h : e + f = k
      · rw [if_pos h, if_pos (by omega), Int.mul_comm]
      · rw [if_neg h, if_neg (by omega), Int.mul_zero]
  rw [h1, h2, sumT_swap]
theorem coefT_mul_comm (a b : List Tm) (k : Int) : coefT (mulT a b) k = coefT (mulT b a) k := by rw [coefT_mul', coefT_mul]
theorem mulT_append (a b c : List Tm) : mulT (a ++ b) c = mulT a c ++ mulT b c := by unfold mulT; rw [List.flatMap_append]
theorem scaleT_append (e c : Int) (a b : List Tm) : scaleT e c (a ++ b) = scaleT e c a ++ scaleT e c b := by unfold scaleT; rw [List.map_append]
theorem scaleT_scale (e c f d : Int) (l : List Tm) : scaleT e c (scaleT f d l) = scaleT (e + f) (c * d) l := by
  unfold scaleT
  rw [List.map_map]
  refine List.map_congr_left fun x _ => ?_
  show (e + (f + x.1), c * (d * x.2)) = (e + f + x.1, c * d * x.2)
  rw [Int.add_assoc, Int.mul_assoc]
theorem mulT_scale (e c : Int) (b : List Tm) : ∀ a : List Tm, mulT (scaleT e c a) b = scaleT e c (mulT a b)
  | [] => rfl
  | (f, d) :: a => by
    show scaleT (e + f) (c * d) b ++ mulT (scaleT e c a) b = scaleT e c (scaleT f d b ++ mulT a b)
    rw [mulT_scale e c b a, scaleT_append, scaleT_scale]
theorem mulT_assoc (b c : List Tm) : ∀ a : List Tm, mulT (mulT a b) c = mulT a (mulT b c)
  | [] => rfl
  | (e, d) :: a => by
    rw [mulT_cons, mulT_append, mulT_assoc b c a, mulT_scale]
    rfl

/-! ### the ring -/
instance lpSetoid : Setoid (List Tm) where
  r a b := ∀ k, coefT a k = coefT b k
  iseqv := ⟨fun _ _ => rfl, fun h k => (h k).symm, fun h1 h2 k => (h1 k).trans (h2 k)⟩
/-- A Laurent polynomial. -/
def LP : Type := Quotient lpSetoid
namespace LP
def mk (l : List Tm) : LP := Quotient.mk _ l
theorem mk_eq {a b : List Tm} (h : ∀ k, coefT a k = coefT b k) : mk a = mk b := Quotient.sound h
/-- The coefficient at an exponent. -/
def co : LP → Int → Int := Quotient.lift coefT fun a b h => funext h
theorem co_mk (l : List Tm) (k : Int) : co (mk l) k = coefT l k := rfl
theorem ext {x y : LP} (h : ∀ k, co x k = co y k) : x = y := by
  induction x using Quotient.inductionOn
  induction y using Quotient.inductionOn
  exact Quotient.sound h
theorem mk_of (x : LP) : ∃ l, x = mk l := by
  induction x using Quotient.inductionOn
  exact ⟨_, rfl⟩
instance : Add LP := ⟨Quotient.lift₂ (fun a b => mk (a ++ b)) fun a b a' b' h1 h2 => mk_eq fun k => by rw [coefT_append, coefT_append, h1 k, h2 k]⟩
instance : Mul LP := ⟨Quotient.lift₂ (fun a b => mk (mulT a b)) fun a b a' b' h1 h2 => mk_eq fun k => by
  rw [coefT_mul', show (sumT b fun f d => d * coefT a (k - f)) = sumT b fun f d => d * coefT a' (k - f) from sumT_congr fun f d _ => by rw [h1], ← coefT_mul', coefT_mul,
    show (sumT a' fun e c => c * coefT b (k - e)) = sumT a' fun e c => c * coefT b' (k - e) from sumT_congr fun f d _ => by rw [h2], ← coefT_mul]⟩
instance : Neg LP := ⟨Quotient.lift (fun a => mk (scaleT 0 (-1) a)) fun a b h => mk_eq fun k => by rw [coefT_scale, coefT_scale, h]⟩
instance : Zero LP := ⟨mk []⟩
instance : One LP := ⟨mk [(0, 1)]⟩
theorem mul_mk (a b : List Tm) : mk a * mk b = mk (mulT a b) := rfl
theorem neg_mk (a : List Tm) : -mk a = mk (scaleT 0 (-1) a) := rfl
theorem co_add (x y : LP) (k : Int) : co (x + y) k = co x k + co y k := by
  obtain ⟨a, rfl⟩ := mk_of x
  obtain ⟨b, rfl⟩ := mk_of y
  exact coefT_append a b k
theorem co_neg (x : LP) (k : Int) : co (-x) k = -co x k := by
  obtain ⟨a, rfl⟩ := mk_of x
  rw [neg_mk, co_mk, coefT_scale, Int.sub_zero, co_mk]
  omega
theorem co_zero (k : Int) : co 0 k = 0 := rfl
theorem one_mk : (1 : LP) = mk [(0, 1)] := rfl
instance : CR LP where
  add_assoc x y z := ext fun k => by simp only [co_add]; omega
  add_comm x y := ext fun k => by simp only [co_add]; omega
  zero_add x := ext fun k => by rw [co_add, co_zero]; omega
  neg_add x := ext fun k => by rw [co_add, co_neg, co_zero]; omega
  mul_assoc x y z := by
    obtain ⟨a, rfl⟩ := mk_of x
    obtain ⟨b, rfl⟩ := mk_of y
    obtain ⟨c, rfl⟩ := mk_of z
    rw [mul_mk, mul_mk, mul_mk, mul_mk, mulT_assoc]
  mul_comm x y := by
    obtain ⟨a, rfl⟩ := mk_of x
    obtain ⟨b, rfl⟩ := mk_of y
    exact mk_eq fun k => coefT_mul_comm a b k
  one_mul x := by
    obtain ⟨a, rfl⟩ := mk_of x
    exact mk_eq fun k => by
      rw [coefT_mul]
      show 1 * coefT a (k - 0) + 0 = _
      rw [Int.sub_zero]; omega
  mul_add x y z := by
    obtain ⟨a, rfl⟩ := mk_of x
    obtain ⟨b, rfl⟩ := mk_of y
    obtain ⟨c, rfl⟩ := mk_of z
    exact mk_eq fun k => by
      rw [coefT_append, coefT_mul, coefT_mul, coefT_mul, ← sumT_add]
      exact sumT_congr fun e c _ => by rw [coefT_append, Int.mul_add]
/-- One term. -/
def term (e c : Int) : LP := mk [(e, c)]
theorem co_term (e c k : Int) : co (term e c) k = if e = k then c else 0 := by
  show (if e = k then c else 0) + 0 = _
  omega
/-- The polynomial that begins at an exponent. -/
def of (lo : Int) : List Int → LP
  | [] => 0
  | c :: cs => term lo c + of (lo + 1) cs
theorem co_of : ∀ (cs : List Int) (lo k : Int), co (of lo cs) k = if lo ≤ k ∧ k < lo + cs.length then cs.getD (k - lo).toNat 0 else 0
  | [], lo, k => by
    rw [if_neg (fun h => by have := h.1; have := h.2; simp at this; omega)]
    rfl
  | c :: cs, lo, k => by
    show co (term lo c + of (lo + 1) cs) k = _
    rw [co_add, co_term, co_of cs (lo + 1) k]
    simp only [List.length_cons]
    by_cases h0 : lo = k
    · subst h0
      rw [if_pos rfl, if_neg (by omega), if_pos (by omega)]
      simp
    · rw [if_neg h0, Int.zero_add]
      by_cases h1 : lo + 1 ≤ k ∧ k < lo + 1 + cs.length
      · rw [if_pos h1, if_pos (by omega)]
        obtain ⟨m, hm⟩ : ∃ m : Nat, (k - lo).toNat = m + 1 := ⟨(k - lo).toNat - 1, by omega⟩
        rw [hm, show (k - (lo + 1)).toNat = m by omega]
        rfl
      · rw [if_neg h1, if_neg (by omega)]
theorem co_of_at {cs : List Int} {lo : Int} {i : Nat} (h : i < cs.length) : co (of lo cs) (lo + i) = cs.getD i 0 := by
  rw [co_of, if_pos (by omega), show (lo + (i : Int) - lo).toNat = i by omega]
end LP
end Go.Proofs.Ytoaiblhlpdaeoaa
/- Laurent polynomials: values, conjugates, canonical forms. -/
namespace Go.Proofs.Ytoaiblhlpdaeoaa
set_option linter.unusedVariables false
set_option linter.unusedSimpArgs false

/-! ### linear forms -/
namespace LP
/-- The powers of 1, or of -1. -/
def pw (neg : Bool) (e : Int) : Int := if neg = true ∧ e % 2 ≠ 0 then -1 else 1
theorem pw_add (neg : Bool) (e f : Int) : pw neg (e + f) = pw neg e * pw neg f := by
  unfold pw
  cases neg
  · simp
  · have h1 : e % 2 = 0 ∨ e % 2 = 1 := by omega
    have h2 : f % 2 = 0 ∨ f % 2 = 1 := by omega
    have n0 : ∀ {e : Int}, e % 2 = 0 → ¬(true = true ∧ e % 2 ≠ 0) := fun h h2 => h2.2 h
    have n1 : ∀ {e : Int}, e % 2 = 1 → (true = true ∧ e % 2 ≠ 0) := fun h => ⟨rfl, by omega⟩
    rcases h1 with h1 | h1 <;> rcases h2 with h2 | h2
    · rw [if_neg (n0 (by omega)), if_neg (n0 h1), if_neg (n0 h2)]; rfl
    · rw [if_pos (n1 (by omega)), if_neg (n0 h1), if_pos (n1 h2)]; rfl
    · rw [if_pos (n1 (by omega)), if_pos (n1 h1), if_neg (n0 h2)]; rfl
    · rw [if_neg (n0 (by omega)), if_pos (n1 h1), if_pos (n1 h2)]; rfl
/-! ### conjugates -/
/-! ### canonical forms -/
def Cano (lo : Int) (cs : List Int) : Prop := (cs = [] ∧ lo = 0) ∨ (cs ≠ [] ∧ cs.getD 0 0 ≠ 0 ∧ cs.getD (cs.length - 1) 0 ≠ 0)
theorem Cano.low {lo : Int} {cs : List Int} (h : Cano lo cs) (hn : cs ≠ []) : co (of lo cs) lo ≠ 0 := by
  rcases h with h | ⟨_, h, _⟩
  · exact absurd h.1 hn
  · have hl : 0 < cs.length := List.length_pos_iff.2 hn
    have := co_of_at (lo := lo) hl
    rw [show lo + ((0 : Nat) : Int) = lo by omega] at this
    rw [this]; exact h
theorem Cano.high {lo : Int} {cs : List Int} (h : Cano lo cs) (hn : cs ≠ []) : co (of lo cs) (lo + (cs.length - 1 : Nat)) ≠ 0 := by
  rcases h with h | ⟨_, _, h⟩
  · exact absurd h.1 hn
  · have hl : 0 < cs.length := List.length_pos_iff.2 hn
    rw [co_of_at (lo := lo) (show cs.length - 1 < cs.length by omega)]; exact h
theorem co_of_some {lo k : Int} {cs : List Int} (h : co (of lo cs) k ≠ 0) : lo ≤ k ∧ k < lo + cs.length := by
  rw [co_of] at h
  by_cases hh : lo ≤ k ∧ k < lo + cs.length
  · exact hh
  · rw [if_neg hh] at h; exact absurd rfl h
theorem Cano.unique {lo lo' : Int} {cs cs' : List Int} (h : Cano lo cs) (h' : Cano lo' cs') (he : of lo cs = of lo' cs') : lo = lo' ∧ cs = cs' := by
  by_cases hn : cs = []
  · by_cases hn' : cs' = []
    · rcases h with h | h
      · rcases h' with h' | h'
        · exact ⟨by rw [h.2, h'.2], by rw [hn, hn']⟩
        · exact absurd hn' h'.1
      · exact absurd hn h.1
    · have := h'.low hn'
      rw [← he, hn] at this
      exact absurd rfl this
  · by_cases hn' : cs' = []
    · have := h.low hn
      rw [he, hn'] at this
      exact absurd rfl this
    · have a1 := h.low hn
      have a2 := h.high hn
      have b1 := h'.low hn'
      have b2 := h'.high hn'
      rw [he] at a1 a2
      rw [← he] at b1 b2
      have a1 := co_of_some a1
      have a2 := co_of_some a2
      have b1 := co_of_some b1
      have b2 := co_of_some b2
      have hl : 0 < cs.length := List.length_pos_iff.2 hn
      have hl' : 0 < cs'.length := List.length_pos_iff.2 hn'
      have hlo : lo = lo' := by omega
      have hlen : cs.length = cs'.length := by omega
      subst hlo
      refine ⟨rfl, List.ext_getElem hlen fun i h1 h2 => ?_⟩
      have e1 := co_of_at (lo := lo) h1
      have e2 := co_of_at (lo := lo) h2
      rw [he] at e1
      rw [e1] at e2
      simpa [List.getD, List.getElem?_eq_getElem h1, List.getElem?_eq_getElem h2] using e2
theorem of_snoc0 (cs : List Int) (lo : Int) : of lo (cs ++ [0]) = of lo cs := ext fun k => by
  rw [co_of, co_of]
  have hl : (cs ++ [0]).length = cs.length + 1 := by simp
  by_cases h : lo ≤ k ∧ k < lo + cs.length
  · rw [if_pos h, if_pos (by omega)]
    have h1 : (k - lo).toNat < cs.length := by omega
    rw [List.getD_eq_getElem?_getD, List.getElem?_append_left h1, ← List.getD_eq_getElem?_getD]
  · rw [if_neg h]
    by_cases h2 : lo ≤ k ∧ k < lo + (cs ++ [0]).length
    · rw [if_pos h2]
      have h3 : (k - lo).toNat = cs.length := by omega
      rw [h3, List.getD_eq_getElem?_getD, List.getElem?_append_right (Nat.le_refl _), Nat.sub_self]
      rfl
    · rw [if_neg h2]
theorem of_cons0 (cs : List Int) (lo : Int) : of lo (0 :: cs) = of (lo + 1) cs := ext fun k => by
  show co (term lo 0 + of (lo + 1) cs) k = _
  rw [co_add, co_term]
  split <;> omega
theorem cano_exists : ∀ (n : Nat) (cs : List Int) (lo : Int), cs.length ≤ n → ∃ lo' cs', Cano lo' cs' ∧ of lo' cs' = of lo cs
  | _, [], lo, _ => ⟨0, [], .inl ⟨rfl, rfl⟩, rfl⟩
  | 0, c :: cs, lo, h => absurd h (by simp)
  | n + 1, c :: cs, lo, h => by
    by_cases hc : c = 0
    · subst hc
      rw [of_cons0]
      exact cano_exists n cs (lo + 1) (by simpa using h)
    · by_cases hl : (c :: cs).getD cs.length 0 = 0
      · have hcs : cs ≠ [] := by
          rintro rfl
          exact hc hl
        obtain ⟨ds, hds⟩ : ∃ ds, c :: cs = ds ++ [0] := by
          refine ⟨(c :: cs).dropLast, ?_⟩
          have h1 := List.dropLast_concat_getLast (l := c :: cs) (by simp)
          have h2 : (c :: cs).getLast (by simp) = 0 := by
            rw [List.getLast_eq_getElem]
            have h3 : (c :: cs).length - 1 < (c :: cs).length := by simp
            have h4 : (c :: cs).getD ((c :: cs).length - 1) 0 = 0 := by simpa using hl
            simpa [List.getD, List.getElem?_eq_getElem h3] using h4
          rw [h2] at h1
          exact h1.symm
        rw [hds, of_snoc0]
        have := congrArg List.length hds
        simp at this h
        exact cano_exists n ds lo (by omega)
      · exact ⟨lo, c :: cs, .inr ⟨by simp, hc, by simpa using hl⟩, rfl⟩
theorem sumT_out (k : Int) : ∀ l : List Tm, (∀ x ∈ l, x.1 ≠ k) → coefT l k = 0
  | [], _ => rfl
  | (e, c) :: l, h => by
    show (if e = k then c else 0) + coefT l k = 0
    rw [if_neg (h (e, c) (by simp)), sumT_out k l fun x hx => h x (by simp [hx])]; rfl
theorem bounded (l : List Tm) : ∃ N : Nat, ∀ x ∈ l, x.1.natAbs ≤ N := by
  induction l with
  | nil => exact ⟨0, fun x h => (by cases h)⟩
  | cons x l ih =>
    obtain ⟨N, h⟩ := ih
    refine ⟨max N x.1.natAbs, fun y hy => ?_⟩
    rcases List.mem_cons.1 hy with rfl | hy
    · exact Nat.le_max_right _ _
    · exact Nat.le_trans (h y hy) (Nat.le_max_left _ _)
/-- The coefficients of n exponents from lo on. -/
def win (x : LP) (lo : Int) (n : Nat) : List Int := (List.range n).map fun i : Nat => co x (lo + (i : Int))
theorem win_length (x : LP) (lo : Int) (n : Nat) : (win x lo n).length = n := by simp [win]
theorem win_getD (x : LP) (lo : Int) {n i : Nat} (h : i < n) : (win x lo n).getD i 0 = co x (lo + i) := by simp [win, List.getD, h]
theorem of_win {x : LP} {lo : Int} {n : Nat} (h : ∀ k, co x k ≠ 0 → lo ≤ k ∧ k < lo + n) : of lo (win x lo n) = x := ext fun k => by
  rw [co_of, win_length]
  by_cases hk : lo ≤ k ∧ k < lo + n
  · rw [if_pos hk, win_getD x lo (by omega)]
    rw [show lo + ((k - lo).toNat : Int) = k by omega]
  · rw [if_neg hk]
    by_cases h0 : co x k = 0
    · exact h0.symm
    · exact absurd (h k h0) hk
theorem canon_exists (x : LP) : ∃ p : Int × List Int, Cano p.1 p.2 ∧ of p.1 p.2 = x := by
  obtain ⟨l, rfl⟩ := mk_of x
  obtain ⟨N, hN⟩ := bounded l
  have h : ∀ k, co (mk l) k ≠ 0 → -(N : Int) ≤ k ∧ k < -(N : Int) + (2 * N + 1 : Nat) := fun k hk => by
    by_cases hh : -(N : Int) ≤ k ∧ k < -(N : Int) + (2 * N + 1 : Nat)
    · exact hh
    · refine absurd (sumT_out k l fun x hx e => ?_) hk
      have := hN x hx
      omega
  obtain ⟨lo', cs', h1, h2⟩ := cano_exists _ (win (mk l) (-(N : Int)) (2 * N + 1)) (-(N : Int)) (Nat.le_refl _)
  exact ⟨(lo', cs'), h1, h2.trans (of_win h)⟩
noncomputable def canon (x : LP) : Int × List Int := Classical.choose (canon_exists x)
theorem canon_cano (x : LP) : Cano (canon x).1 (canon x).2 := (Classical.choose_spec (canon_exists x)).1
theorem of_canon (x : LP) : of (canon x).1 (canon x).2 = x := (Classical.choose_spec (canon_exists x)).2
theorem canon_eq {lo : Int} {cs : List Int} {x : LP} (h : Cano lo cs) (he : of lo cs = x) : canon x = (lo, cs) := by
  obtain ⟨h1, h2⟩ := (canon_cano x).unique h ((of_canon x).trans he.symm)
  exact Prod.ext h1 h2
theorem canon_zero : canon 0 = (0, []) := canon_eq (.inl ⟨rfl, rfl⟩) rfl
end LP
end Go.Proofs.Ytoaiblhlpdaeoaa
/- Laurent polynomials: which are right, what fits; division. -/
namespace Go.Proofs.Ytoaiblhlpdaeoaa
set_option linter.unusedVariables false
set_option linter.unusedSimpArgs false
namespace LP

def okC (c : Int) : Bool := decide (c ≤ 100000000 ∧ -100000000 ≤ c)
/-- The error of a polynomial. -/
def pfl (lo : Int) (cs : List Int) : Int :=
  if 200 < cs.length ∨ 1000 < lo ∨ lo < -1000 then 2
  else if (cs.length = 0 ∧ lo ≠ 0) ∨ (0 < cs.length ∧ (cs.getD 0 0 = 0 ∨ cs.getD (cs.length - 1) 0 = 0)) then 3
  else if cs.all okC then 0 else 1
theorem pfl_zero {lo : Int} {cs : List Int} (h : pfl lo cs = 0) : cs.length ≤ 200 ∧ -1000 ≤ lo ∧ lo ≤ 1000 ∧ Cano lo cs ∧ ∀ c ∈ cs, c.natAbs ≤ 100000000 := by
  unfold pfl at h
  by_cases h1 : 200 < cs.length ∨ 1000 < lo ∨ lo < -1000
  · rw [if_pos h1] at h; cases h
  · rw [if_neg h1] at h
    by_cases h2 : (cs.length = 0 ∧ lo ≠ 0) ∨ (0 < cs.length ∧ (cs.getD 0 0 = 0 ∨ cs.getD (cs.length - 1) 0 = 0))
    · rw [if_pos h2] at h; cases h
    · rw [if_neg h2] at h
      by_cases h3 : cs.all okC = true
      · refine ⟨by omega, by omega, by omega, ?_, fun c hc => ?_⟩
        · by_cases hn : cs = []
          · refine .inl ⟨hn, ?_⟩
            subst hn
            by_cases h0 : lo = 0
            · exact h0
            · exact absurd (.inl ⟨rfl, h0⟩) h2
          · have hl : 0 < cs.length := List.length_pos_iff.2 hn
            exact .inr ⟨hn, fun e => h2 (.inr ⟨hl, .inl e⟩), fun e => h2 (.inr ⟨hl, .inr e⟩)⟩
        · have := List.all_eq_true.1 h3 c hc
          unfold okC at this
          have := of_decide_eq_true this
          omega
      · rw [if_neg h3] at h; cases h
theorem pfl_ok {lo : Int} {cs : List Int} (h1 : cs.length ≤ 200) (h2 : -1000 ≤ lo) (h3 : lo ≤ 1000) (h4 : Cano lo cs) (h5 : ∀ c ∈ cs, c.natAbs ≤ 100000000) : pfl lo cs = 0 := by
  unfold pfl
  rw [if_neg (by omega), if_neg, if_pos]
  · rw [List.all_eq_true]
    intro c hc
    have := h5 c hc
    exact decide_eq_true (by omega)
  · rintro (⟨h, h0⟩ | ⟨h, h0⟩)
    · rcases h4 with h4 | h4
      · exact h0 h4.2
      · exact h4.1 (List.eq_nil_of_length_eq_zero h)
    · rcases h4 with h4 | h4
      · rw [h4.1] at h; exact absurd h (by simp)
      · rcases h0 with h0 | h0
        · exact h4.2.1 h0
        · exact h4.2.2 h0
/-- An error, the lowest exponent, the coefficients. -/
abbrev PR := Int × Int × List Int
/-- What comes of a polynomial: itself, or the error that it is too large. -/
noncomputable def fit (x : LP) : PR := if pfl (canon x).1 (canon x).2 = 0 then (0, (canon x).1, (canon x).2) else (2, 0, [])
/-! ### bounds -/
structure Sm (x : LP) (l h : Int) (B : Nat) : Prop where
  supp : ∀ k, co x k ≠ 0 → l ≤ k ∧ k ≤ h
  le : ∀ k, (co x k).natAbs ≤ B
theorem Sm.add {x y : LP} {l h l' h' : Int} {B C : Nat} (hx : Sm x l h B) (hy : Sm y l' h' C) : Sm (x + y) (min l l') (max h h') (B + C) :=
  ⟨fun k hk => by
    rw [co_add] at hk
    by_cases h1 : co x k = 0
    · by_cases h2 : co y k = 0
      · rw [h1, h2] at hk; exact absurd rfl hk
      · have := hy.supp k h2; omega
    · have := hx.supp k h1; omega,
  fun k => by rw [co_add]; have := hx.le k; have := hy.le k; omega⟩
theorem Sm.neg {x : LP} {l h : Int} {B : Nat} (hx : Sm x l h B) : Sm (-x) l h B :=
  ⟨fun k hk => hx.supp k (fun e => hk (by rw [co_neg, e]; rfl)), fun k => by rw [co_neg]; have := hx.le k; omega⟩
theorem Sm.mono {x : LP} {l h l' h' : Int} {B C : Nat} (hx : Sm x l h B) (h1 : l' ≤ l) (h2 : h ≤ h') (h3 : B ≤ C) : Sm x l' h' C :=
  ⟨fun k hk => by have := hx.supp k hk; omega, fun k => Nat.le_trans (hx.le k) h3⟩
theorem Sm.pfl {x : LP} {l h : Int} {B : Nat} (hx : Sm x l h B) (h1 : h - l < 200) (h2 : -1000 ≤ l) (h3 : h ≤ 1000) (h4 : B ≤ 100000000) : pfl (canon x).1 (canon x).2 = 0 := by
  have hc := canon_cano x
  have ho := of_canon x
  by_cases hn : (canon x).2 = []
  · rcases hc with hc | hc
    · rw [hc.2, hn]; rfl
    · exact absurd hn hc.1
  · have e1 := hc.low hn
    have e2 := hc.high hn
    rw [ho] at e1 e2
    have s1 := hx.supp _ e1
    have s2 := hx.supp _ e2
    have hl : 0 < (canon x).2.length := List.length_pos_iff.2 hn
    refine pfl_ok (by omega) (by omega) (by omega) hc fun c hcm => ?_
    obtain ⟨i, hi, rfl⟩ := List.getElem_of_mem hcm
    have e3 := co_of_at (lo := (canon x).1) hi
    rw [ho] at e3
    have e4 : (canon x).2.getD i 0 = (canon x).2[i] := by simp [List.getD, List.getElem?_eq_getElem hi]
    rw [← e4, ← e3]
    exact Nat.le_trans (hx.le _) h4
/-! ### units -/
/-! ### dividing a product -/
end LP
end Go.Proofs.Ytoaiblhlpdaeoaa
/- Conjugate words: their cyclically reduced parts are rotations of each other. -/
namespace Go.Proofs.Ytoaiblhlpdaeoaa
set_option linter.unusedVariables false
set_option linter.unusedSimpArgs false

/-- A rotation. -/
def Rot (c d : List Int) : Prop := ∃ p q, c = p ++ q ∧ d = q ++ p
theorem Rot.refl (c : List Int) : Rot c c := ⟨[], c, rfl, by simp⟩
theorem Rot.symm {c d : List Int} (h : Rot c d) : Rot d c := by
  obtain ⟨p, q, h1, h2⟩ := h
  exact ⟨q, p, h2, h1⟩
theorem Rot.trans {c d e : List Int} (h : Rot c d) (h' : Rot d e) : Rot c e := by
  obtain ⟨p, q, rfl, rfl⟩ := h
  obtain ⟨p', q', h1, rfl⟩ := h'
  rcases List.append_eq_append_iff.1 h1 with ⟨a, rfl, rfl⟩ | ⟨a, rfl, rfl⟩
  · exact ⟨a, q' ++ q, by simp, by simp⟩
  · exact ⟨p ++ p', a, by simp, by simp⟩
theorem Rot.length {c d : List Int} (h : Rot c d) : c.length = d.length := by
  obtain ⟨p, q, rfl, rfl⟩ := h
  simp only [List.length_append]
  omega
theorem Rot.sum {c d : List Int} (h : Rot c d) (f : Int → Int) : (c.map f).sum = (d.map f).sum := by
  obtain ⟨p, q, rfl, rfl⟩ := h
  simp only [List.map_append, List.sum_append]
  omega

end Go.Proofs.Ytoaiblhlpdaeoaa
/- Determinants over a commutative ring: what alternates and is linear in each row is a multiple of the determinant. -/
namespace Go.Proofs.Ytoaiblhlpdaeoaa
set_option linter.unusedVariables false
set_option linter.unusedSimpArgs false
open CR

abbrev Mtx (R : Type) := Nat → Nat → R
set_option linter.unusedSectionVars false
section
variable {R : Type} [CR R]
/-- Row r replaced. -/
def updR (M : Mtx R) (r : Nat) (v : Nat → R) : Mtx R := fun i j => if i = r then v j else M i j
theorem updR_same (M : Mtx R) (r : Nat) (v : Nat → R) : updR M r v r = v := by funext j; simp [updR]
theorem updR_ne (M : Mtx R) {r i : Nat} (v : Nat → R) (h : i ≠ r) : updR M r v i = M i := by funext j; simp [updR, h]
theorem updR_self (M : Mtx R) (r : Nat) : updR M r (M r) = M := by
  funext i j
  unfold updR
  by_cases h : i = r
  · rw [if_pos h, h]
  · rw [if_neg h]
theorem updR_comm (M : Mtx R) {r s : Nat} (u v : Nat → R) (h : r ≠ s) : updR (updR M r u) s v = updR (updR M s v) r u := by
  funext i j
  unfold updR
  by_cases h1 : i = r
  · subst h1
    rw [if_neg h, if_pos rfl, if_pos rfl]
  · rw [if_neg h1, if_neg h1]

/-- Linear in each of n rows, and zero if two of them are equal. -/
structure Alt (n : Nat) (F : Mtx R → R) : Prop where
  ext : ∀ A B : Mtx R, (∀ i, i < n → ∀ j, j < n → A i j = B i j) → F A = F B
  add : ∀ (M : Mtx R) (r : Nat) (u v : Nat → R), r < n → F (updR M r fun j => u j + v j) = F (updR M r u) + F (updR M r v)
  smul : ∀ (M : Mtx R) (r : Nat) (c : R) (u : Nat → R), r < n → F (updR M r fun j => c * u j) = c * F (updR M r u)
  alt : ∀ (M : Mtx R) (r s : Nat), r < s → s < n → (∀ j, j < n → M r j = M s j) → F M = 0

variable {n : Nat} {F : Mtx R → R}
theorem Alt.zero (h : Alt n F) (M : Mtx R) {r : Nat} (hr : r < n) : F (updR M r fun _ => 0) = 0 := by
  have := h.smul M r 0 (fun _ => 0) hr
  simp only [zero_mul] at this
  exact this
theorem Alt.alt' (h : Alt n F) (M : Mtx R) {r s : Nat} (hr : r < n) (hs : s < n) (hne : r ≠ s) (he : ∀ j, j < n → M r j = M s j) : F M = 0 := by
  rcases Nat.lt_or_gt_of_ne hne with h1 | h1
  · exact h.alt M r s h1 hs he
  · exact h.alt M s r h1 hr fun j hj => (he j hj).symm
/-- A multiple of another row may be added. -/
theorem Alt.addRow (h : Alt n F) (M : Mtx R) {r s : Nat} (c : R) (hr : r < n) (hs : s < n) (hne : r ≠ s) : F (updR M r fun j => M r j + c * M s j) = F M := by
  rw [h.add M r _ _ hr, updR_self, h.smul M r c _ hr, h.alt' (updR M r (M s)) hr hs hne, mul_zero, add_zero]
  intro j _
  rw [updR_same, updR_ne _ _ (Ne.symm hne)]
/-- Rows r and s exchanged. -/
def swapR (M : Mtx R) (r s : Nat) : Mtx R := updR (updR M r (M s)) s (M r)
theorem Alt.swap (h : Alt n F) (M : Mtx R) {r s : Nat} (hr : r < n) (hs : s < n) (hne : r ≠ s) : F (swapR M r s) = -F M := by
  have key : ∀ u v : Nat → R, F (updR (updR M r u) s v) + F (updR (updR M r v) s u) = 0 := by
    intro u v
    have h0 : F (updR (updR M r fun j => u j + v j) s fun j => u j + v j) = 0 :=
      h.alt' _ hr hs hne fun j _ => by rw [updR_same, updR_ne _ _ hne, updR_same]
    rw [h.add _ s _ _ hs, updR_comm _ _ _ hne, updR_comm _ _ _ hne, h.add _ r _ _ hr, h.add _ r _ _ hr] at h0
    have e1 : F (updR (updR M s u) r u) = 0 := h.alt' _ hr hs hne fun j _ => by rw [updR_same, updR_ne _ _ (Ne.symm hne), updR_same]
    have e2 : F (updR (updR M s v) r v) = 0 := h.alt' _ hr hs hne fun j _ => by rw [updR_same, updR_ne _ _ (Ne.symm hne), updR_same]
    rw [e1, e2, zero_add, add_zero] at h0
    rw [updR_comm _ _ _ hne, updR_comm _ _ _ hne, add_comm]
    exact h0
  have h1 := key (M r) (M s)
  rw [updR_self, updR_self] at h1
  rw [add_comm] at h1
  exact eq_neg_of_add h1
/-- A row that is a sum. -/
theorem Alt.rowSum (h : Alt n F) (M : Mtx R) {r : Nat} (hr : r < n) (c : Nat → R) (u : Nat → Nat → R) : ∀ k, F (updR M r fun j => sumN k fun l => c l * u l j) = sumN k fun l => c l * F (updR M r (u l))
  | 0 => h.zero M hr
  | k + 1 => by
    rw [sumN_succ, ← h.rowSum M hr c u k, ← h.smul M r (c k) (u k) hr, ← h.add M r _ _ hr]
    rfl

/-! ### the determinant -/
/-- Along the first row. -/
def detR : Nat → Mtx R → R
  | 0, _ => 1
  | n + 1, M => sumN (n + 1) fun j => sgR R j * (M 0 j * detR n fun a b => M (a + 1) (skip j b))
def oneM : Mtx R := fun i j => if i = j then 1 else 0
def unskip (l j : Nat) : Nat := if j < l then j else j - 1
theorem skip_unskip {l j : Nat} (h : j ≠ l) : skip l (unskip l j) = j := by unfold unskip skip; grind
theorem skip_lt {l j n : Nat} (h : j < n) : skip l j < n + 1 := by unfold skip; split <;> omega
/-- The smaller matrix N below the row e l. -/
def below1 (l : Nat) (N : Mtx R) : Mtx R := fun i j => if i = 0 then (if j = l then 1 else 0) else if j = l then 0 else N (i - 1) (unskip l j)
theorem below1_upd (l : Nat) (N : Mtx R) (r : Nat) (v : Nat → R) : below1 l (updR N r v) = updR (below1 l N) (r + 1) (fun j => if j = l then 0 else v (unskip l j)) := by
  funext i j
  unfold below1 updR
  grind
theorem Alt.below {F : Mtx R → R} (h : Alt (n + 1) F) {l : Nat} (hl : l < n + 1) : Alt n fun N => F (below1 l N) := by
  refine ⟨fun A B he => h.ext _ _ fun i hi j hj => ?_, fun M r u v hr => ?_, fun M r c u hr => ?_, fun M r s hrs hs he => ?_⟩
  · unfold below1
    by_cases h0 : i = 0
    · rw [if_pos h0, if_pos h0]
    · rw [if_neg h0, if_neg h0]
      by_cases h2 : j = l
      · rw [if_pos h2, if_pos h2]
      · rw [if_neg h2, if_neg h2]
        exact he _ (by omega) _ (by unfold unskip; split <;> omega)
  · show F (below1 l (updR M r _)) = F (below1 l (updR M r u)) + F (below1 l (updR M r v))
    rw [below1_upd, below1_upd, below1_upd, ← h.add _ (r + 1) _ _ (by omega)]
    congr 2
    funext j
    by_cases h2 : j = l
    · rw [if_pos h2, if_pos h2, if_pos h2, zero_add]
    · rw [if_neg h2, if_neg h2, if_neg h2]
  · show F (below1 l (updR M r _)) = c * F (below1 l (updR M r u))
    rw [below1_upd, below1_upd, ← h.smul _ (r + 1) c _ (by omega)]
    congr 2
    funext j
    by_cases h2 : j = l
    · rw [if_pos h2, if_pos h2, mul_zero]
    · rw [if_neg h2, if_neg h2]
  · refine h.alt _ (r + 1) (s + 1) (by omega) (by omega) fun j hj => ?_
    have := he (unskip l j)
    unfold below1 unskip at *
    grind
/-- Below the row e l its column may be cleared. -/
theorem Alt.clear_ {F : Mtx R → R} (h : Alt (n + 1) F) (M : Mtx R) {l : Nat} (hl : l < n + 1) (h0 : ∀ j, M 0 j = if j = l then 1 else 0) : ∀ k, k ≤ n → F M = F fun i j => if i ≠ 0 ∧ i ≤ k ∧ j = l then 0 else M i j
  | 0, _ => by
    congr 1
    funext i j
    rw [if_neg (by omega)]
  | k + 1, hk => by
    rw [h.clear_ M hl h0 k (by omega)]
    have h2 := h.addRow (fun i j => if i ≠ 0 ∧ i ≤ k ∧ j = l then 0 else M i j) (r := k + 1) (s := 0) (-(M (k + 1) l)) (by omega) (by omega) (by omega)
    rw [← h2]
    congr 1
    funext i j
    have e1 := add_neg (M (k + 1) l)
    have e2 := mul_one (-M (k + 1) l)
    have e3 := mul_zero (-M (k + 1) l)
    have e4 := add_zero (M (k + 1) j)
    have e5 := h0 j
    unfold updR
    grind
theorem Alt.unit {F : Mtx R → R} (h : Alt (n + 1) F) : ∀ l, l < n + 1 → F (below1 l oneM) = sgR R l * F oneM
  | 0, _ => by
    rw [sgR_zero, one_mul]
    congr 1
    funext i j
    unfold below1 oneM unskip
    grind
  | l + 1, hl => by
    have hs := h.swap (below1 l oneM) (r := 0) (s := l + 1) (by omega) hl (by omega)
    rw [h.unit l (by omega)] at hs
    rw [sgR_succ, neg_mul, ← hs]
    congr 1
    funext i j
    unfold swapR updR below1 oneM unskip
    grind
/-- What is linear and alternates is a multiple of the determinant. -/
theorem Alt.eq : ∀ {n : Nat} {F : Mtx R → R}, Alt n F → ∀ M, F M = detR n M * F oneM
  | 0, F, h, M => by
    rw [show detR 0 M = 1 from rfl, one_mul]
    exact h.ext _ _ fun i hi => absurd hi (by omega)
  | n + 1, F, h, M => by
    have h1 : F M = sumN (n + 1) fun l => M 0 l * F (updR M 0 fun j => if j = l then 1 else 0) := by
      rw [← h.rowSum M (by omega)]
      refine h.ext _ _ fun i hi j hj => ?_
      unfold updR
      by_cases h0 : i = 0
      · rw [if_pos h0]
        dsimp only
        rw [sumN_single (k := j) hj]
        · rw [if_pos rfl, mul_one, h0]
        · intro l _ hne
          rw [if_neg (Ne.symm hne), mul_zero]
      · rw [if_neg h0]
    have h2 : ∀ l, l < n + 1 → F (updR M 0 fun j => if j = l then 1 else 0) = detR n (fun a b => M (a + 1) (skip l b)) * (sgR R l * F oneM) := by
      intro l hl
      rw [← h.unit l hl, ← (h.below hl).eq fun a b => M (a + 1) (skip l b)]
      rw [h.clear_ _ hl (fun j => by rw [updR_same]) n (Nat.le_refl _)]
      refine h.ext _ _ fun i hi j hj => ?_
      have e := @skip_unskip l j
      unfold below1 updR
      grind
    rw [h1]
    show _ = (sumN (n + 1) fun j => sgR R j * (M 0 j * detR n fun a b => M (a + 1) (skip j b))) * F oneM
    rw [mul_comm, ← sumN_mul]
    refine sumN_congr fun l hl => ?_
    rw [h2 l hl]
    ac_rfl

/-! ### it is one itself -/
/-- A product of matrices. -/
def mulM (n : Nat) (A B : Mtx R) : Mtx R := fun i j => sumN n fun k => A i k * B k j
end
end Go.Proofs.Ytoaiblhlpdaeoaa
/- LARUE: a braid word with the letter m, without -m and without smaller letters, does not act as the identity on the free group. -/
namespace Go.Proofs.Ytoaiblhlpdaeoaa
set_option linter.unusedVariables false
set_option linter.unusedSimpArgs false

/-- What the reduced image of a reduced word begins with. -/
def Hd (p q : Int) : List Int → List Int → Prop
  | [], r => r = []
  | z :: _, r =>
    (z = p → ∃ s, r = p :: q :: s) ∧ (z = -p → ∃ s, r = p :: -q :: s) ∧
    (z = q → r = [p] ∨ ∃ h s, r = p :: h :: s ∧ h ≠ q ∧ h ≠ -q ∧ h ≠ -p) ∧
    (z = -q → ∃ h s, r = h :: s ∧ (h = -p ∨ h = q ∨ h = -q)) ∧
    (z ≠ p → z ≠ -p → z ≠ q → z ≠ -q → ∃ s, r = z :: s)
/-- Images as those of a letter. -/
structure Lt (p q : Int) (L : Int → List Int) : Prop where
  hp : p ≠ 0
  hq : q ≠ 0
  h1 : p ≠ q
  h2 : p ≠ -q
  p_ : L p = [p, q, -p]
  np : L (-p) = [p, -q, -p]
  q_ : L q = [p]
  nq : L (-q) = [-p]
  o : ∀ z, z ≠ p → z ≠ -p → z ≠ q → z ≠ -q → z ≠ 0 → L z = [z]
theorem cns_nil (x : Int) : cns x [] = [x] := rfl
theorem cns_ne {x y : Int} (t : List Int) (h : x ≠ -y) : cns x (y :: t) = x :: y :: t := by rw [cns_cons, if_neg h]
theorem cns_eq {x y : Int} (t : List Int) (h : x = -y) : cns x (y :: t) = t := by rw [cns_cons, if_pos h]
theorem Lt.hd {p q : Int} {L : Int → List Int} (hL : Lt p q L) : ∀ (t : List Int), Red t → nz t → Hd p q t (nf (t.flatMap L))
  | [], _, _ => rfl
  | z :: t, hr, hz => by
    have ih := hL.hd t hr.tail fun x hx => hz x (by simp [hx])
    have hz0 : z ≠ 0 := hz z (by simp)
    have e : nf ((z :: t).flatMap L) = act (L z) (nf (t.flatMap L)) := by
      rw [List.flatMap_cons, nf_append]
    rw [e]
    generalize nf (t.flatMap L) = r at ih
    have hp := hL.hp
    have hq := hL.hq
    have h1 := hL.h1
    have h2 := hL.h2
    -- what the rest begins with
    have key : r = [] ∨ ∃ y s, r = y :: s ∧ y ≠ 0 ∧
        ((z = p ∨ z = -p) → (∃ s', s = s' ∧ y = p ∧ (∃ w, s = q :: w ∧ z = p ∨ s = -q :: w ∧ z = -p ∨ s = [] ∨ ∃ h w', s = h :: w' ∧ h ≠ q ∧ h ≠ -q ∧ h ≠ -p)) ∨ y ≠ p) ∧
        (z = q → y ≠ -p) ∧ (z = q → y ≠ q) ∧ (z = q → y ≠ -q) ∧ (z = -q → y = p → ∃ w, s = q :: w ∨ s = -q :: w) ∧ (z ≠ p → z ≠ -p → z ≠ q → z ≠ -q → y ≠ -z) := by
      cases t with
      | nil => exact .inl ih
      | cons x t =>
        have hx0 : x ≠ 0 := hz x (by simp)
        have hzx : z ≠ -x := hr.1
        obtain ⟨i1, i2, i3, i4, i5⟩ := ih
        refine .inr ?_
        by_cases c1 : x = p
        · obtain ⟨s, rfl⟩ := i1 c1
          clear i1 i2 i3 i4 i5
          refine ⟨p, q :: s, rfl, hp, fun _ => ?_, by omega, by omega, by omega, fun _ _ => ⟨s, .inl rfl⟩, by omega⟩
          by_cases c : z = p
          · exact .inl ⟨_, rfl, rfl, s, .inl ⟨rfl, c⟩⟩
          · omega
        by_cases c2 : x = -p
        · obtain ⟨s, rfl⟩ := i2 c2
          clear i1 i2 i3 i4 i5
          refine ⟨p, -q :: s, rfl, hp, fun _ => ?_, by omega, by omega, by omega, fun _ _ => ⟨s, .inr rfl⟩, by omega⟩
          by_cases c : z = -p
          · exact .inl ⟨_, rfl, rfl, s, .inr (.inl ⟨rfl, c⟩)⟩
          · omega
        by_cases c3 : x = q
        · rcases i3 c3 with rfl | ⟨h, s, rfl, b1, b2, b3⟩ <;> clear i1 i2 i3 i4 i5
          · exact ⟨p, [], rfl, hp, fun _ => .inl ⟨_, rfl, rfl, [], .inr (.inr (.inl rfl))⟩, by omega, by omega, by omega, by omega, by omega⟩
          · exact ⟨p, h :: s, rfl, hp, fun _ => .inl ⟨_, rfl, rfl, [], .inr (.inr (.inr ⟨h, s, rfl, b1, b2, b3⟩))⟩, by omega, by omega, by omega, by omega, by omega⟩
        by_cases c4 : x = -q
        · obtain ⟨h, s, rfl, b⟩ := i4 c4
          clear i1 i2 i3 i4 i5
          exact ⟨h, s, rfl, by omega, fun _ => .inr (by omega), by omega, by omega, by omega, by omega, by omega⟩
        · obtain ⟨s, rfl⟩ := i5 c1 c2 c3 c4
          clear i1 i2 i3 i4 i5
          exact ⟨x, s, rfl, hx0, fun _ => .inr c1, by omega, by omega, by omega, by omega, by omega⟩
    clear ih
    unfold Hd
    by_cases c1 : z = p
    · subst c1
      refine ⟨fun _ => ?_, by omega, by omega, by omega, by omega⟩
      rw [hL.p_]
      show ∃ s, cns z (cns q (cns (-z) r)) = _
      rcases key with rfl | ⟨y, s, rfl, hy, k, -⟩
      · rw [cns_nil, cns_ne _ (by omega), cns_ne _ (by omega)]
        exact ⟨_, rfl⟩
      · have k2 := k (.inl rfl)
        clear k
        rcases k2 with ⟨_, rfl, rfl, w, kk⟩ | kk
        · rw [cns_eq _ rfl]
          rcases kk with ⟨rfl, _⟩ | ⟨rfl, b⟩ | rfl | ⟨h, w', rfl, b1, b2, b3⟩
          · rw [cns_ne _ (by omega), cns_ne _ (by omega)]; exact ⟨_, rfl⟩
          · omega
          · rw [cns_nil, cns_ne _ (by omega)]; exact ⟨_, rfl⟩
          · rw [cns_ne _ (by omega), cns_ne _ (by omega)]; exact ⟨_, rfl⟩
        · rw [cns_ne _ (by omega), cns_ne _ (by omega), cns_ne _ (by omega)]
          exact ⟨_, rfl⟩
    by_cases c2 : z = -p
    · subst c2
      refine ⟨by omega, fun _ => ?_, by omega, by omega, by omega⟩
      rw [hL.np]
      show ∃ s, cns p (cns (-q) (cns (-p) r)) = _
      rcases key with rfl | ⟨y, s, rfl, hy, k, -⟩
      · rw [cns_nil, cns_ne _ (by omega), cns_ne _ (by omega)]
        exact ⟨_, rfl⟩
      · have k2 := k (.inr rfl)
        clear k
        rcases k2 with ⟨_, rfl, rfl, w, kk⟩ | kk
        · rw [cns_eq _ rfl]
          rcases kk with ⟨rfl, b⟩ | ⟨rfl, _⟩ | rfl | ⟨h, w', rfl, b1, b2, b3⟩
          · omega
          · rw [cns_ne _ (by omega), cns_ne _ (by omega)]; exact ⟨_, rfl⟩
          · rw [cns_nil, cns_ne _ (by omega)]; exact ⟨_, rfl⟩
          · rw [cns_ne _ (by omega), cns_ne _ (by omega)]; exact ⟨_, rfl⟩
        · rw [cns_ne _ (by omega), cns_ne _ (by omega), cns_ne _ (by omega)]
          exact ⟨_, rfl⟩
    by_cases c3 : z = q
    · subst c3
      refine ⟨by omega, by omega, fun _ => ?_, by omega, by omega⟩
      rw [hL.q_]
      show cns p r = _ ∨ ∃ h s, cns p r = _ ∧ _
      rcases key with rfl | ⟨y, s, rfl, hy, -, k1, k2, k3, -⟩
      · exact .inl rfl
      · have := k1 rfl
        rw [cns_ne _ (by omega)]
        exact .inr ⟨y, s, rfl, k2 rfl, k3 rfl, k1 rfl⟩
    by_cases c4 : z = -q
    · subst c4
      refine ⟨by omega, by omega, by omega, fun _ => ?_, by omega⟩
      rw [hL.nq]
      show ∃ h s, cns (-p) r = _ ∧ _
      rcases key with rfl | ⟨y, s, rfl, hy, -, -, -, -, k, -⟩
      · exact ⟨-p, [], rfl, .inl rfl⟩
      · by_cases hyp : y = p
        · obtain ⟨w, kk⟩ := k rfl hyp
          clear k
          rcases kk with rfl | rfl
          · rw [cns_eq _ (by omega)]; exact ⟨q, w, rfl, by omega⟩
          · rw [cns_eq _ (by omega)]; exact ⟨-q, w, rfl, by omega⟩
        · clear k
          rw [cns_ne _ (by omega)]
          exact ⟨-p, _, rfl, .inl rfl⟩
    · refine ⟨by omega, by omega, by omega, by omega, fun _ _ _ _ => ?_⟩
      rw [hL.o z c1 c2 c3 c4 hz0]
      show ∃ s, cns z r = _
      rcases key with rfl | ⟨y, s, rfl, hy, -, -, -, -, -, k⟩
      · exact ⟨[], rfl⟩
      · have := k c1 c2 c3 c4
        rw [cns_ne _ (by omega)]
        exact ⟨_, rfl⟩
end Go.Proofs.Ytoaiblhlpdaeoaa
/- Words drawn among the beginnings of one positive braid; handles are reduced within the drawing. -/
namespace Go.Proofs.Ytoaiblhlpdaeoaa
set_option linter.unusedVariables false
set_option linter.unusedSimpArgs false

/-! ### equal braids act alike -/
theorem RelA.trans {a b d : List Int} (h : RelA a b) (k : RelA b d) : RelA a d := fun u hu => (h u hu).trans (k u hu)
namespace Gar
/-! ### drawn words -/
inductive Edge : M → Int → M → Prop
  | p (x : M) (i : Nat) : Edge x (up i) (x * g i)
  | n (y : M) (i : Nat) : Edge (y * g i) (-up i) y
theorem up_inj {i j : Nat} (h : up i = up j) : i = j := by unfold up at h; omega
theorem up_ne (i j : Nat) : up i ≠ -up j := by unfold up; omega
theorem Edge.pos {x y : M} {i : Nat} (h : Edge x (up i) y) : y = x * g i := by
  generalize hl : up i = l at h
  cases h with
  | p x j => rw [up_inj hl]
  | n y j => exact absurd hl (up_ne _ _)
theorem Edge.neg {x y : M} {i : Nat} (h : Edge x (-up i) y) : x = y * g i := by
  generalize hl : -up i = l at h
  cases h with
  | p x j => exact absurd hl.symm (up_ne _ _)
  | n y j => rw [up_inj (by omega : up i = up j)]
theorem Edge.det {x y z : M} {l : Int} (h : Edge x l y) (k : Edge x l z) : y = z := by
  cases h with
  | p x i => exact k.pos.symm
  | n y i => exact mul_right k.neg
/-- A path from x to y among the beginnings of b. -/
def Dr (b : M) : M → List Int → M → Prop
  | x, [], y => dv x b ∧ x = y
  | x, l :: w, y => dv x b ∧ ∃ z, Edge x l z ∧ Dr b z w y
theorem Dr.start {b x y : M} : ∀ {w : List Int}, Dr b x w y → dv x b
  | [], h => h.1
  | _ :: _, h => h.1
theorem Dr.stop {b y : M} : ∀ {w : List Int} {x : M}, Dr b x w y → dv y b
  | [], _, h => h.2 ▸ h.1
  | _ :: _, _, ⟨_, _, _, h⟩ => h.stop
theorem Dr.det {b : M} : ∀ {w : List Int} {x y z : M}, Dr b x w y → Dr b x w z → y = z
  | [], _, _, _, h, k => h.2.symm.trans k.2
  | _ :: _, _, _, _, ⟨_, _, h1, h2⟩, ⟨_, _, k1, k2⟩ => by
    rw [h1.det k1] at h2
    exact h2.det k2
theorem Dr.app {b : M} : ∀ {u v : List Int} {x y : M}, Dr b x (u ++ v) y ↔ ∃ z, Dr b x u z ∧ Dr b z v y
  | [], v, x, y => ⟨fun h => ⟨x, ⟨h.start, rfl⟩, h⟩, fun ⟨z, h, k⟩ => by rw [h.2]; exact k⟩
  | l :: u, v, x, y => by
    constructor
    · rintro ⟨h, z, e, k⟩
      obtain ⟨t, k1, k2⟩ := Dr.app.1 k
      exact ⟨t, ⟨h, z, e, k1⟩, k2⟩
    · rintro ⟨t, ⟨h, z, e, k1⟩, k2⟩
      exact ⟨h, z, e, Dr.app.2 ⟨t, k1, k2⟩⟩
theorem Dr.one {b x y : M} {l : Int} (hx : dv x b) (hy : dv y b) (e : Edge x l y) : Dr b x [l] y := ⟨hx, y, e, hy, rfl⟩
theorem Dr.two {b x z y : M} {l k : Int} (hx : dv x b) (hz : dv z b) (hy : dv y b) (e : Edge x l z) (f : Edge z k y) : Dr b x [l, k] y := ⟨hx, z, e, hz, y, f, hy, rfl⟩
theorem Dr.three {b x z t y : M} {l k j : Int} (hx : dv x b) (hz : dv z b) (ht : dv t b) (hy : dv y b) (e : Edge x l z) (f : Edge z k t) (q : Edge t j y) : Dr b x [l, k, j] y := ⟨hx, z, e, hz, t, f, ht, y, q, hy, rfl⟩
/-- What a letter of a handle becomes. -/
def hsub (e : Bool) (i : Nat) (l : Int) : List Int :=
  if l = up (i + 1) then [if e then -up (i + 1) else up (i + 1), up i, if e then up (i + 1) else -up (i + 1)]
  else if l = -up (i + 1) then [if e then -up (i + 1) else up (i + 1), -up i, if e then up (i + 1) else -up (i + 1)]
  else [l]
/-- A letter behind i + 1, or i + 1 itself. -/
theorem hsub_p (e : Bool) (i : Nat) : hsub e i (up (i + 1)) = [if e then -up (i + 1) else up (i + 1), up i, if e then up (i + 1) else -up (i + 1)] := if_pos rfl
theorem hsub_n (e : Bool) (i : Nat) : hsub e i (-up (i + 1)) = [if e then -up (i + 1) else up (i + 1), -up i, if e then up (i + 1) else -up (i + 1)] := by
  unfold hsub
  rw [if_neg (fun h => up_ne _ _ h.symm), if_pos rfl]
theorem hsub_far (e : Bool) {i k : Nat} (h : i + 2 ≤ k) : hsub e i (up k) = [up k] ∧ hsub e i (-up k) = [-up k] := by
  unfold hsub up
  constructor
  · rw [if_neg (by omega), if_neg (by omega)]
  · rw [if_neg (by omega), if_neg (by omega)]
/-- The letters within a handle of i. -/
inductive Ins (i : Nat) : Int → Prop
  | far (k : Nat) (h : i + 2 ≤ k) : Ins i (up k)
  | farn (k : Nat) (h : i + 2 ≤ k) : Ins i (-up k)
  | p : Ins i (up (i + 1))
  | n : Ins i (-up (i + 1))
theorem far_of {i k : Nat} (h : i + 2 ≤ k) : far i k := .inl h
theorem nb_of (i : Nat) : nb i (i + 1) := .inl rfl
theorem dv_r {x y b : M} (h : dv (x * y) b) : dv x b := (dv_mul x y).trans h
/-- + and -: from the left. -/
theorem step_pm {b X X1 Y1 : M} {i : Nat} {l : Int} (hi : Ins i l) (hl : l ≠ up (i + 1)) (e : X1 = X * g i) (h1 : dv X1 b) (h2 : dv Y1 b) (ed : Edge X1 l Y1) : ∃ Y, Y1 = Y * g i ∧ Dr b X (hsub true i l) Y := by
  subst e
  cases hi with
  | far k h =>
    rw [(hsub_far true h).1]
    have := ed.pos
    subst this
    refine ⟨X * g k, by rw [mul_assoc, g_far (far_of h), ← mul_assoc], Dr.one (dv_r h1) ?_ (.p _ _)⟩
    rw [mul_assoc, g_far (far_of h), ← mul_assoc] at h2
    exact dv_r h2
  | farn k h =>
    rw [(hsub_far true h).2]
    obtain ⟨z, e1, e2⟩ := (con_r ed.neg).2.1 (far_of h)
    refine ⟨z, e2, Dr.one (dv_r h1) (by rw [e1] at h1; exact dv_r (dv_r h1)) ?_⟩
    rw [e1]
    exact .n _ _
  | p => exact absurd rfl hl
  | n =>
    rw [hsub_n]
    obtain ⟨z, e1, e2⟩ := (con_r ed.neg).2.2 (nb_of i)
    rw [e1] at h1
    rw [e2] at h2
    refine ⟨z * g (i + 1), by rw [e2, mul_assoc], ?_⟩
    rw [e1]
    have k1 : dv (z * g i) b := by rw [← mul_assoc] at h1; exact dv_r (dv_r h1)
    rw [← mul_assoc z] at h2
    refine Dr.three (z := z * g i) (t := z) (dv_r h1) k1 (dv_r k1) (dv_r h2) ?_ (.n _ _) (.p _ _)
    rw [← mul_assoc]
    exact .n _ _
/-- + and +: from the right. -/
theorem step_pp {b X1 Y Y1 : M} {i : Nat} {l : Int} (hi : Ins i l) (hl : l ≠ -up (i + 1)) (e : Y1 = Y * g i) (h1 : dv X1 b) (h2 : dv Y1 b) (ed : Edge X1 l Y1) : ∃ X, X1 = X * g i ∧ Dr b X (hsub true i l) Y := by
  subst e
  cases hi with
  | far k h =>
    rw [(hsub_far true h).1]
    obtain ⟨z, e1, e2⟩ := (con_r ed.pos).2.1 (far_of h)
    have hY : dv Y b := dv_r h2
    rw [e2] at h1
    refine ⟨z, e2, ?_⟩
    rw [e1] at hY ⊢
    exact Dr.one (dv_r h1) hY (.p _ _)
  | farn k h =>
    rw [(hsub_far true h).2]
    have := ed.neg
    subst this
    refine ⟨Y * g k, by rw [mul_assoc, g_far (far_of h), ← mul_assoc], Dr.one ?_ (dv_r h2) (.n _ _)⟩
    rw [mul_assoc, g_far (far_of h), ← mul_assoc] at h1
    exact dv_r h1
  | n => exact absurd rfl hl
  | p =>
    rw [hsub_p]
    obtain ⟨z, e1, e2⟩ := (con_r ed.pos).2.2 (nb_of i)
    have hY : dv Y b := dv_r h2
    rw [e2, ← mul_assoc] at h1
    rw [e1] at hY ⊢
    refine ⟨z * g (i + 1), by rw [e2, mul_assoc], ?_⟩
    refine Dr.three (z := z) (t := z * g i) (dv_r h1) (dv_r (dv_r h1)) (by rw [← mul_assoc] at hY; exact dv_r hY) hY (.n _ _) (.p _ _) ?_
    rw [← mul_assoc]
    exact .p _ _
/-- Two letters that can follow: their least common multiple can. -/
theorem dv_far {b x : M} {i k : Nat} (h : far i k) (h1 : dv (x * g i) b) (h2 : dv (x * g k) b) : dv (x * g i * g k) b := by
  obtain ⟨u, hu⟩ := h1
  obtain ⟨v, hv⟩ := h2
  have e : x * (g i * u) = x * (g k * v) := by rw [← mul_assoc, ← mul_assoc, ← hu, ← hv]
  have e2 := mul_left e
  rw [← c_g, ← c_g] at e2
  obtain ⟨z, h3, _⟩ := (con e2).fr h
  exact ⟨z, by rw [hu, h3, c_g, ← mul_assoc]⟩
theorem dv_nb {b x : M} {i k : Nat} (h : nb i k) (h1 : dv (x * g i) b) (h2 : dv (x * g k) b) : dv (x * (g i * (g k * g i))) b := by
  obtain ⟨u, hu⟩ := h1
  obtain ⟨v, hv⟩ := h2
  have e : x * (g i * u) = x * (g k * v) := by rw [← mul_assoc, ← mul_assoc, ← hu, ← hv]
  have e2 := mul_left e
  rw [← c_g, ← c_g] at e2
  obtain ⟨z, h3, _⟩ := (con e2).br h
  exact ⟨z, by rw [hu, h3, c_g, c_g]; simp only [mul_assoc]⟩
/-- - and +: from the left. -/
theorem step_mp {b X1 Y1 : M} {i : Nat} {l : Int} (hi : Ins i l) (hl : l ≠ -up (i + 1)) (h1 : dv (X1 * g i) b) (h2 : dv Y1 b) (ed : Edge X1 l Y1) : Dr b (X1 * g i) (hsub false i l) (Y1 * g i) := by
  cases hi with
  | far k h =>
    rw [(hsub_far false h).1]
    have := ed.pos
    subst this
    have k1 := dv_far (far_of h) h1 h2
    have e : X1 * g k * g i = X1 * g i * g k := by rw [mul_assoc, g_far (far_of h).symm, ← mul_assoc]
    rw [e]
    exact Dr.one h1 k1 (.p _ _)
  | farn k h =>
    rw [(hsub_far false h).2]
    have := ed.neg
    subst this
    have e : Y1 * g k * g i = Y1 * g i * g k := by rw [mul_assoc, g_far (far_of h).symm, ← mul_assoc]
    rw [e] at h1 ⊢
    exact Dr.one h1 (dv_r h1) (.n _ _)
  | n => exact absurd rfl hl
  | p =>
    rw [hsub_p]
    have := ed.pos
    subst this
    have k1 := dv_nb (nb_of i) h1 h2
    have e : X1 * (g i * (g (i + 1) * g i)) = X1 * g (i + 1) * g i * g (i + 1) := by rw [g_nb (nb_of i), mul_assoc, mul_assoc]
    have k2 := k1
    rw [e] at k2
    refine Dr.three (z := X1 * g i * g (i + 1)) (t := X1 * g (i + 1) * g i * g (i + 1)) h1 ?_ k2 (dv_r k2) (.p _ _) ?_ (.n _ _)
    · rw [← mul_assoc (g i), ← mul_assoc, ← mul_assoc] at k1; exact dv_r k1
    · rw [← e, ← mul_assoc (g i), ← mul_assoc, ← mul_assoc]; exact .p _ _
/-- - and -: from the right. -/
theorem step_mm {b X1 Y1 : M} {i : Nat} {l : Int} (hi : Ins i l) (hl : l ≠ up (i + 1)) (h1 : dv (Y1 * g i) b) (h2 : dv X1 b) (ed : Edge X1 l Y1) : Dr b (X1 * g i) (hsub false i l) (Y1 * g i) := by
  cases hi with
  | far k h =>
    rw [(hsub_far false h).1]
    have := ed.pos
    subst this
    have e : X1 * g k * g i = X1 * g i * g k := by rw [mul_assoc, g_far (far_of h).symm, ← mul_assoc]
    rw [e] at h1 ⊢
    exact Dr.one (dv_r h1) h1 (.p _ _)
  | farn k h =>
    rw [(hsub_far false h).2]
    have := ed.neg
    subst this
    have k1 := dv_far (far_of h) h1 h2
    have e : Y1 * g k * g i = Y1 * g i * g k := by rw [mul_assoc, g_far (far_of h).symm, ← mul_assoc]
    rw [e]
    exact Dr.one k1 h1 (.n _ _)
  | p => exact absurd rfl hl
  | n =>
    rw [hsub_n]
    have := ed.neg
    subst this
    have k1 := dv_nb (nb_of i) h1 h2
    have e : Y1 * (g i * (g (i + 1) * g i)) = Y1 * g (i + 1) * g i * g (i + 1) := by rw [g_nb (nb_of i), mul_assoc, mul_assoc]
    have k2 := k1
    rw [e] at k2
    have e2 : Y1 * (g i * (g (i + 1) * g i)) = Y1 * g i * g (i + 1) * g i := by rw [mul_assoc, mul_assoc]
    have k3 := k1
    rw [e2] at k3
    refine Dr.three (z := Y1 * g (i + 1) * g i * g (i + 1)) (t := Y1 * g i * g (i + 1)) (dv_r k2) k2 (dv_r k3) h1 (.p _ _) ?_ (.n _ _)
    rw [← e, e2]
    exact .n _ _
theorem path_pm {b : M} {i : Nat} : ∀ (v : List Int) {X X1 Y1 : M}, (∀ l ∈ v, Ins i l ∧ l ≠ up (i + 1)) → X1 = X * g i → Dr b X1 v Y1 → ∃ Y, Y1 = Y * g i ∧ Dr b X (v.flatMap (hsub true i)) Y
  | [], X, X1, Y1, _, e, h => ⟨X, by rw [← h.2, e], dv_r (e ▸ h.1), rfl⟩
  | l :: v, X, X1, Y1, hv, e, ⟨h1, Z1, ed, h2⟩ => by
    obtain ⟨Z, f1, f2⟩ := step_pm (hv l (by simp)).1 (hv l (by simp)).2 e h1 h2.start ed
    obtain ⟨Y, q1, q2⟩ := path_pm v (fun k hk => hv k (by simp [hk])) f1 h2
    exact ⟨Y, q1, by rw [List.flatMap_cons]; exact Dr.app.2 ⟨Z, f2, q2⟩⟩
theorem path_pp {b : M} {i : Nat} : ∀ (v : List Int) {X1 Y Y1 : M}, (∀ l ∈ v, Ins i l ∧ l ≠ -up (i + 1)) → Y1 = Y * g i → Dr b X1 v Y1 → ∃ X, X1 = X * g i ∧ Dr b X (v.flatMap (hsub true i)) Y
  | [], X1, Y, Y1, _, e, h => ⟨Y, by rw [h.2, e], dv_r (e ▸ h.2 ▸ h.1), rfl⟩
  | l :: v, X1, Y, Y1, hv, e, ⟨h1, Z1, ed, h2⟩ => by
    obtain ⟨Z, q1, q2⟩ := path_pp v (fun k hk => hv k (by simp [hk])) e h2
    obtain ⟨X, f1, f2⟩ := step_pp (hv l (by simp)).1 (hv l (by simp)).2 q1 h1 h2.start ed
    exact ⟨X, f1, by rw [List.flatMap_cons]; exact Dr.app.2 ⟨Z, f2, q2⟩⟩
theorem path_mp {b : M} {i : Nat} : ∀ (v : List Int) {X1 Y1 : M}, (∀ l ∈ v, Ins i l ∧ l ≠ -up (i + 1)) → dv (X1 * g i) b → Dr b X1 v Y1 → Dr b (X1 * g i) (v.flatMap (hsub false i)) (Y1 * g i)
  | [], X1, Y1, _, h, k => ⟨h, by rw [k.2]⟩
  | l :: v, X1, Y1, hv, h, ⟨h1, Z1, ed, h2⟩ => by
    have f := step_mp (hv l (by simp)).1 (hv l (by simp)).2 h h2.start ed
    have q := path_mp v (fun k hk => hv k (by simp [hk])) f.stop h2
    rw [List.flatMap_cons]
    exact Dr.app.2 ⟨_, f, q⟩
theorem path_mm {b : M} {i : Nat} : ∀ (v : List Int) {X1 Y1 : M}, (∀ l ∈ v, Ins i l ∧ l ≠ up (i + 1)) → dv (Y1 * g i) b → Dr b X1 v Y1 → Dr b (X1 * g i) (v.flatMap (hsub false i)) (Y1 * g i)
  | [], X1, Y1, _, h, k => ⟨by rw [k.2]; exact h, by rw [k.2]⟩
  | l :: v, X1, Y1, hv, h, ⟨h1, Z1, ed, h2⟩ => by
    have q := path_mm v (fun k hk => hv k (by simp [hk])) h h2
    have f := step_mm (hv l (by simp)).1 (hv l (by simp)).2 q.start h1 ed
    rw [List.flatMap_cons]
    exact Dr.app.2 ⟨_, f, q⟩
/-- The first letter of a handle. -/
def hlet (e : Bool) (i : Nat) : Int := if e then up i else -up i
/-- What may stand within a handle that is reduced. -/
def InsOk (i : Nat) (v : List Int) : Prop := (∀ l ∈ v, Ins i l) ∧ (up (i + 1) ∉ v ∨ -up (i + 1) ∉ v)
/-- A handle is reduced within the drawing. -/
theorem Dr.handle {b x y : M} {e : Bool} {i : Nat} {v : List Int} (hv : InsOk i v) (h : Dr b x (hlet e i :: (v ++ [hlet (!e) i])) y) : Dr b x (v.flatMap (hsub e i)) y := by
  obtain ⟨h0, x1, ed, h1⟩ := h
  obtain ⟨y1, h2, h3⟩ := Dr.app.1 h1
  obtain ⟨h4, y', ed2, h5, rfl⟩ := h3
  obtain ⟨hI, hs⟩ := hv
  cases e with
  | true =>
    have e1 : x1 = x * g i := Edge.pos ed
    have e2 : y1 = y' * g i := Edge.neg ed2
    rcases hs with hs | hs
    · obtain ⟨Y, q1, q2⟩ := path_pm v (fun l hl => ⟨hI l hl, fun k => hs (k ▸ hl)⟩) e1 h2
      rw [e2] at q1
      rw [mul_right q1]
      exact q2
    · obtain ⟨X, q1, q2⟩ := path_pp v (fun l hl => ⟨hI l hl, fun k => hs (k ▸ hl)⟩) e2 h2
      rw [e1] at q1
      rw [mul_right q1]
      exact q2
  | false =>
    have e1 : x = x1 * g i := Edge.neg ed
    have e2 : y' = y1 * g i := Edge.pos ed2
    subst e1 e2
    rcases hs with hs | hs
    · exact path_mm v (fun l hl => ⟨hI l hl, fun k => hs (k ▸ hl)⟩) h5 h2
    · exact path_mp v (fun l hl => ⟨hI l hl, fun k => hs (k ▸ hl)⟩) h0 h2
end Gar
end Go.Proofs.Ytoaiblhlpdaeoaa
/- The normal form of the inverse; how large the power can be. -/
namespace Go.Proofs.Ytoaiblhlpdaeoaa
set_option linter.unusedVariables false
set_option linter.unusedSimpArgs false
namespace Gar

/-! ### turned around by the half twist -/
open Classical in
noncomputable def tau (n : Nat) (x : M) : M := if h : In n x then Classical.choose (tw_move h) else x
theorem tau_spec {n : Nat} {x : M} (h : In n x) : In n (tau n x) ∧ len (tau n x) = len x ∧ x * tw n = tw n * tau n x := by
  unfold tau
  rw [dif_pos h]
  obtain ⟨h1, h2, h3, _⟩ := Classical.choose_spec (tw_move h)
  exact ⟨h1, h2, h3⟩
theorem tau_pm {n : Nat} {x : M} (h : In n x) {s : Nat} (hs : s < n) : pm (tau n x) (n - 1 - s) = n - 1 - pm x s := by
  have e := congrArg (fun y => pm y s) (tau_spec h).2.2
  simp only [pm_mul] at e
  rw [pm_tw n (pm x s), if_pos (pm_lt h hs), pm_tw n s, if_pos hs] at e
  exact e.symm
theorem tau_rev {n : Nat} {x : M} (h : In n x) {u : Nat} (hu : u < n) : pm (rev (tau n x)) (n - 1 - u) = n - 1 - pm (rev x) u := by
  have ht : pm (rev x) u < n := pm_lt (In_rev.2 h) hu
  have e := tau_pm h ht
  rw [pm_rev' x u] at e
  rw [← e, pm_rev]
theorem tau_mul {n : Nat} {x y : M} (hx : In n x) (hy : In n y) : tau n (x * y) = tau n x * tau n y := by
  refine mul_left (x := tw n) ?_
  rw [← (tau_spec (In_mul.2 ⟨hx, hy⟩)).2.2, mul_assoc, (tau_spec hy).2.2, ← mul_assoc, (tau_spec hx).2.2, mul_assoc]
theorem tau_tw (n : Nat) : tau n (tw n) = tw n := (mul_left (tau_spec (In_tw n)).2.2).symm
theorem tau_one (n : Nat) : tau n 1 = 1 := len_zero (tau_spec (In_one n)).2.1
theorem Sim.tau {n : Nat} {x : M} (h : Sim n x) : Sim n (Gar.tau n x) := by
  obtain ⟨w, hw⟩ := h.dv
  have hin : In n w := by have := In_tw n; rw [hw] at this; exact (In_mul.1 this).2
  refine Sim_iff.2 ⟨Gar.tau n w, ?_⟩
  rw [← tau_mul h.1 hin, ← hw, tau_tw]
theorem tau_inj {n : Nat} {x y : M} (hx : In n x) (hy : In n y) (e : tau n x = tau n y) : x = y := by
  have h := (tau_spec hx).2.2
  rw [e, ← (tau_spec hy).2.2] at h
  exact mul_right h
theorem Tight.tau {n : Nat} {a b : M} (ha : In n a) (hb : In n b) (h : Tight n a b) : Tight n (Gar.tau n a) (Gar.tau n b) := fun i hi hd hc => by
  have b1 := tau_pm hb (s := n - 1 - i) (by omega)
  have b2 := tau_pm hb (s := n - 1 - (i + 1)) (by omega)
  have c1 := tau_rev ha (u := n - 1 - i) (by omega)
  have c2 := tau_rev ha (u := n - 1 - (i + 1)) (by omega)
  rw [show n - 1 - (n - 1 - i) = i by omega] at b1 c1
  rw [show n - 1 - (n - 1 - (i + 1)) = i + 1 by omega] at b2 c2
  have l1 := pm_lt hb (s := n - 1 - i) (by omega)
  have l2 := pm_lt hb (s := n - 1 - (i + 1)) (by omega)
  have m1 := pm_lt (In_rev.2 ha) (s := n - 1 - i) (by omega)
  have m2 := pm_lt (In_rev.2 ha) (s := n - 1 - (i + 1)) (by omega)
  have hh := h (n - 1 - (i + 1)) (by omega)
  rw [show n - 1 - (i + 1) + 1 = n - 1 - i by omega] at hh
  exact hh (by omega) (by omega)
theorem TightL.tau {n : Nat} : ∀ {l : List M}, TightL n l → TightL n (l.map (Gar.tau n))
  | [], _ => trivial
  | [a], h => Sim.tau (n := n) h
  | a :: b :: l, h => ⟨h.1.tau, h.2.1.tau h.1.1 h.2.2.head.1, h.2.2.tau⟩
theorem prod_tau {n : Nat} : ∀ {l : List M}, (∀ a ∈ l, In n a) → prod (l.map (tau n)) = tau n (prod l)
  | [], _ => (tau_one n).symm
  | a :: l, h => by
    show tau n a * prod (l.map (tau n)) = tau n (a * prod l)
    rw [prod_tau fun x hx => h x (by simp [hx]), tau_mul (h a (by simp)) (In_prod fun x hx => h x (by simp [hx]))]
theorem NF.tau {n : Nat} {l : List M} (h : NF n l) : NF n (l.map (Gar.tau n)) where
  tight := h.tight.tau
  one := fun a ha e => by
    obtain ⟨x, hx, rfl⟩ := List.mem_map.1 ha
    rw [← tau_one n] at e
    exact h.one x hx (tau_inj (h.tight.sim x hx).1 (In_one n) e)
  tw := fun a ha e => by
    obtain ⟨x, hx, rfl⟩ := List.mem_map.1 ha
    rw [← tau_tw n] at e
    exact h.tw x hx (tau_inj (h.tight.sim x hx).1 (In_tw n) e)
theorem TightL.snoc {n : Nat} {b : M} (hb : Sim n b) : ∀ {l : List M}, TightL n l → (∀ a r, l = r ++ [a] → Tight n a b) → TightL n (l ++ [b])
  | [], _, _ => hb
  | [a], h, k => ⟨h, k a [] rfl, hb⟩
  | a :: c :: l, h, k => ⟨h.1, h.2.1, TightL.snoc hb h.2.2 fun x r e => k x (a :: r) (by rw [e]; rfl)⟩
/-- What is before a in the half twist. -/
theorem before_exists {n : Nat} {a : M} (h : Sim n a) : ∃ t, Sim n t ∧ tw n = t * a := by
  obtain ⟨t, ht⟩ := h.ends _ (Nat.le_add_left _ _)
  have := Sim_tw n
  rw [ht] at this
  exact ⟨t, this.parts.1, ht⟩
theorem inv_one {n : Nat} : invG (1 : G n) = 1 := rfl
theorem inv_mulG {n : Nat} (x y : G n) : invG (x * y) = invG y * invG x := by
  refine G_cancel (x := x * y) ?_
  rw [mul_inv, G_assoc, ← G_assoc y, mul_inv, G_one_mul, mul_inv]
theorem tau_G {n : Nat} {x : M} (h : In n x) : pos n x * dl n = dl n * pos n (tau n x) := by
  unfold dl
  rw [← pos_mul h (In_tw n), (tau_spec h).2.2, pos_mul (In_tw n) (tau_spec h).1]
theorem tau_Ginv {n : Nat} {x : M} (h : In n x) : pos n x * invG (dl n) = invG (dl n) * pos n (tau n x) := by
  have ht : tau n (tau n x) = x := by
    obtain ⟨h1, _, h3⟩ := tau_spec h
    have h4 := (tau_spec h1).2.2
    refine mul_left (x := full n) ?_
    have e1 : x * full n = full n * tau n (tau n x) := by
      unfold full
      rw [← mul_assoc, h3, mul_assoc, h4, mul_assoc]
    rw [← e1, full_comm h]
  have e := tau_G (tau_spec h).1
  rw [ht] at e
  refine G_cancel (x := dl n) (G_cancel_r (x := dl n) ?_)
  rw [G_assoc, G_assoc, inv_mul, G_mul_one, ← G_assoc, mul_inv, G_one_mul, e]
/-- The inverse of a product of factors. -/
theorem inv_factors {n : Nat} : ∀ {l : List M}, NF n l → ∃ l', NF n l' ∧ l'.length = l.length ∧ invG (pos n (prod l)) = zp n (-(l.length : Int)) * pos n (prod l') ∧ ∀ b r, l = b :: r → ∃ q t, l' = q ++ [t] ∧ Gar.tw n = t * b
  | [], _ => ⟨[], ⟨trivial, (by simp), (by simp)⟩, rfl, by
    show invG (pos n 1) = zp n 0 * pos n 1
    rw [pos_one, inv_one, zp_zero, G_one_mul], fun b r e => by cases e⟩
  | a :: l, h => by
    have hl : NF n l := ⟨h.tight.tail, fun x hx => h.one x (by simp [hx]), fun x hx => h.tw x (by simp [hx])⟩
    obtain ⟨l', k1, k2, k3, k4⟩ := inv_factors hl
    have ha := h.tight.head
    obtain ⟨t, t1, t2⟩ := before_exists ha
    have hn : ∀ s, s < n → pm a (pm t s) = n - 1 - s := fun s hs => by
      have := pm_tw n s
      rw [t2, pm_mul, if_pos hs] at this
      exact this
    have hta : ∀ s, s < n → pm t s = pm (rev a) (n - 1 - s) := fun s hs => by rw [← hn s hs, pm_rev]
    refine ⟨l'.map (Gar.tau n) ++ [t], ⟨TightL.snoc t1 k1.tight.tau ?_, ?_, ?_⟩, by simp [k2], ?_, fun b r e => ?_⟩
    · intro y q e
      -- the last factor of l' is what is before the first one of l
      cases l with
      | nil =>
        have : l' = [] := List.eq_nil_of_length_eq_zero (by simpa using k2)
        rw [this] at e
        simp at e
      | cons b r =>
        obtain ⟨q2, u, e2, e3⟩ := k4 b r rfl
        have hy : y = Gar.tau n u := by
          rw [e2, List.map_append] at e
          have := congrArg List.getLast? e
          simp at this
          exact this.symm
        subst hy
        have hb := h.tight.tail.head
        have hab : Tight n a b := h.tight.2.1
        have hu : In n u := by have := In_tw n; rw [e3] at this; exact (In_mul.1 this).1
        have hun : ∀ s, s < n → pm b (pm u s) = n - 1 - s := fun s hs => by
          have := pm_tw n s
          rw [e3, pm_mul, if_pos hs] at this
          exact this
        have hru : ∀ v, v < n → pm (rev u) v = n - 1 - pm b v := fun v hv => by
          have h1 : pm (rev u) v < n := pm_lt (In_rev.2 hu) hv
          have h2 := hun _ h1
          rw [pm_rev'] at h2
          omega
        intro i hi hd hc
        rw [hta i (by omega), hta (i + 1) hi] at hd
        have c1 := tau_rev hu (u := n - 1 - i) (by omega)
        have c2 := tau_rev hu (u := n - 1 - (i + 1)) (by omega)
        rw [show n - 1 - (n - 1 - i) = i by omega, hru _ (by omega)] at c1
        rw [show n - 1 - (n - 1 - (i + 1)) = i + 1 by omega, hru _ (by omega)] at c2
        have l1 := pm_lt hb.1 (s := n - 1 - i) (by omega)
        have l2 := pm_lt hb.1 (s := n - 1 - (i + 1)) (by omega)
        have hh := hab (n - 1 - (i + 1)) (by omega)
        rw [show n - 1 - (i + 1) + 1 = n - 1 - i by omega] at hh
        exact hh (by omega) hd
    · intro x hx e
      rcases List.mem_append.1 hx with hx | hx
      · exact k1.tau.one x hx e
      · simp at hx
        rw [← hx, e, one_mul] at t2
        exact h.tw a (by simp) t2.symm
    · intro x hx e
      rcases List.mem_append.1 hx with hx | hx
      · exact k1.tau.tw x hx e
      · simp at hx
        rw [← hx, e] at t2
        have h0 : Gar.tw n * 1 = Gar.tw n * a := by rw [mul_one]; exact t2
        exact h.one a (by simp) (mul_left h0).symm
    · show invG (pos n (a * prod l)) = _
      rw [pos_mul ha.1 hl.inn, inv_mulG, k3]
      have e1 : invG (pos n a) = invG (dl n) * pos n t := by
        refine G_cancel (x := dl n) (G_cancel_r (x := pos n a) ?_)
        rw [G_assoc, inv_mul, G_mul_one, ← G_assoc, mul_inv, G_one_mul, ← pos_mul t1.1 ha.1, ← t2]
        rfl
      have e2 : zp n (-((a :: l).length : Int)) = zp n (-(l.length : Int)) * invG (dl n) := by
        rw [zp_neg, zp_neg, List.length_cons, npow, inv_mulG]
      rw [e1, e2, prod_append, prod_tau fun x hx => (k1.tight.sim x hx).1, pos_mul (tau_spec k1.inn).1 (by rw [show prod [t] = t from mul_one t]; exact t1.1), show prod [t] = t from mul_one t, G_assoc, ← G_assoc (pos n (prod l')), tau_Ginv k1.inn]
      simp only [G_assoc]
    · injection e with e3 e4
      subst e3
      exact ⟨_, t, rfl, t2⟩
/-- The half twist to a power behind factors comes before them, turned. -/
theorem zp_move {n : Nat} {l : List M} (h : NF n l) (k : Int) : ∃ l', NF n l' ∧ l'.length = l.length ∧ pos n (prod l) * zp n k = zp n k * pos n (prod l') := by
  have up : ∀ (m : Nat) {l : List M}, NF n l → ∃ l', NF n l' ∧ l'.length = l.length ∧ pos n (prod l) * npow (dl n) m = npow (dl n) m * pos n (prod l') := by
    intro m
    induction m with
    | zero => intro l h; exact ⟨l, h, rfl, by rw [npow, G_mul_one, G_one_mul]⟩
    | succ m ih =>
      intro l h
      obtain ⟨l', k1, k2, k3⟩ := ih h.tau
      refine ⟨l', k1, by rw [k2, List.length_map], ?_⟩
      rw [npow, ← G_assoc, tau_G h.inn, ← prod_tau fun x hx => (h.tight.sim x hx).1, G_assoc, k3, G_assoc]
  have dn : ∀ (m : Nat) {l : List M}, NF n l → ∃ l', NF n l' ∧ l'.length = l.length ∧ pos n (prod l) * npow (invG (dl n)) m = npow (invG (dl n)) m * pos n (prod l') := by
    intro m
    induction m with
    | zero => intro l h; exact ⟨l, h, rfl, by rw [npow, G_mul_one, G_one_mul]⟩
    | succ m ih =>
      intro l h
      obtain ⟨l', k1, k2, k3⟩ := ih h.tau
      refine ⟨l', k1, by rw [k2, List.length_map], ?_⟩
      rw [npow, ← G_assoc, tau_Ginv h.inn, ← prod_tau fun x hx => (h.tight.sim x hx).1, G_assoc, k3, G_assoc]
  unfold zp
  by_cases hk : 0 ≤ k
  · rw [if_pos hk]; exact up _ h
  · rw [if_neg hk]; exact dn _ h
end Gar
end Go.Proofs.Ytoaiblhlpdaeoaa
/- How large the power of a normal form can be; the normal form of the inverse. -/
namespace Go.Proofs.Ytoaiblhlpdaeoaa
set_option linter.unusedVariables false
set_option linter.unusedSimpArgs false
namespace Gar

theorem zp_addI (n : Nat) (a b : Int) : zp n a * zp n b = zp n (a + b) := by
  by_cases h : 0 ≤ a
  · obtain ⟨m, rfl⟩ : ∃ m : Nat, a = (m : Int) := ⟨a.toNat, by omega⟩
    rw [zp_nat, zp_add]
    congr 1
    omega
  · obtain ⟨m, rfl⟩ : ∃ m : Nat, a = -(m : Int) := ⟨(-a).toNat, by omega⟩
    have e := zp_add n (b - m) m
    rw [show b - m + m = b by omega] at e
    rw [zp_neg, ← e, ← G_assoc, inv_mul, G_one_mul]
    congr 1
    omega
theorem zp_inv (n : Nat) (k : Int) : invG (zp n k) = zp n (-k) := by
  refine G_cancel (x := zp n k) ?_
  rw [mul_inv, zp_addI, show k + -k = 0 by omega, zp_zero]
/-- The normal form of the inverse has as many factors. -/
theorem nf_inv {n : Nat} {k : Int} {l : List M} (h : NF n l) : ∃ l', NF n l' ∧ l'.length = l.length ∧ invG (nfv n k l) = nfv n (-k - (l.length : Int)) l' := by
  obtain ⟨l1, k1, k2, k3, _⟩ := inv_factors h
  obtain ⟨l2, q1, q2, q3⟩ := zp_move k1 (-k)
  refine ⟨l2, q1, by omega, ?_⟩
  unfold nfv
  rw [inv_mulG, k3, zp_inv, G_assoc, q3, ← G_assoc, zp_addI]
  congr 2
  omega
theorem pos_move {n : Nat} {x : M} (h : In n x) (m : Nat) : ∃ y, In n y ∧ pos n x * zp n (-(m : Int)) = zp n (-(m : Int)) * pos n y := by
  induction m generalizing x with
  | zero => exact ⟨x, h, by rw [show -((0 : Nat) : Int) = 0 from rfl, zp_zero, G_mul_one, G_one_mul]⟩
  | succ m ih =>
    obtain ⟨y, h1, h2⟩ := ih (tau_spec h).1
    refine ⟨y, h1, ?_⟩
    have e : zp n (-((m + 1 : Nat) : Int)) = invG (dl n) * zp n (-(m : Int)) := by
      rw [zp_neg, zp_neg, npow, npow_comm, inv_mulG]
    rw [e, ← G_assoc, tau_Ginv h, G_assoc, h2, G_assoc]
theorem letter_frac (n : Nat) (y : Int) : ∃ u, In n u ∧ gp n [y] = zp n (-1) * pos n u := by
  have e1 : zp n (-1) = invG (dl n) := by
    have := zp_neg n 1
    rw [show npow (dl n) 1 = dl n from G_mul_one _] at this
    exact this
  rw [e1]
  by_cases hy : okl n y
  · obtain ⟨i, hi, rfl | rfl⟩ := letter_of hy
    · refine ⟨tw n * g i, In_mul.2 ⟨In_tw n, In_g hi⟩, ?_⟩
      rw [pos_mul (In_tw n) (In_g hi), ← G_assoc, show invG (dl n) * pos n (tw n) = 1 from inv_mul _, G_one_mul, pos_g hi]
    · obtain ⟨t, t1, t2⟩ := before_exists (Sim_g hi)
      refine ⟨t, t1.1, ?_⟩
      refine G_cancel (x := dl n) (G_cancel_r (x := gp n [up i]) ?_)
      have h4 : gp n [-up i] * gp n [up i] = 1 := by
        have := gp_pair n (-up i)
        rwa [Int.neg_neg] at this
      rw [G_assoc, h4, G_mul_one, ← G_assoc, mul_inv, G_one_mul, ← pos_g hi, ← pos_mul t1.1 (In_g hi), ← t2]
      rfl
  · exact ⟨tw n, In_tw n, by rw [gp_bad hy, show invG (dl n) * pos n (tw n) = 1 from inv_mul _]⟩
theorem word_frac (n : Nat) : ∀ w : List Int, ∃ x, In n x ∧ gp n w = zp n (-(w.length : Int)) * pos n x
  | [] => ⟨1, In_one n, by rw [pos_one, G_mul_one]; rfl⟩
  | y :: w => by
    obtain ⟨x, h1, h2⟩ := word_frac n w
    obtain ⟨u, h3, h4⟩ := letter_frac n y
    obtain ⟨v, h5, h6⟩ := pos_move h3 w.length
    refine ⟨v * x, In_mul.2 ⟨h5, h1⟩, ?_⟩
    rw [gp_cons, h2, h4, G_assoc, ← G_assoc (pos n u), h6, ← G_assoc, ← G_assoc, zp_addI, pos_mul h5 h1, ← G_assoc]
    congr 2
    congr 1
    rw [List.length_cons]
    omega
theorem NF.no_tw {n : Nat} (hn : 2 ≤ n) {l : List M} (h : NF n l) : ¬ dv (Gar.tw n) (prod l) := fun hd => by
  cases l with
  | nil =>
    have h1 := hd.len
    rw [show prod [] = (1 : M) from rfl, len_one] at h1
    exact tw_ne hn (len_zero (by omega))
  | cons a l =>
    have h1 := h.tight.alp.max _ (Sim_tw n) hd
    have h2 := h.tight.head.dv
    exact h.tw a (by simp) (h2.antisymm h1.len)
theorem power_ge {n : Nat} (hn : 2 ≤ n) {k : Int} {l : List M} (h : NF n l) {w : List Int} (e : nfv n k l = gp n w) : -(w.length : Int) ≤ k := by
  obtain ⟨x, h1, h2⟩ := word_frac n w
  rw [h2] at e
  refine Classical.byContradiction fun hk => ?_
  obtain ⟨j, hj⟩ : ∃ j : Nat, -(k + w.length) = ((j + 1 : Nat) : Int) := ⟨(-(k + w.length) - 1).toNat, by omega⟩
  have e2 : zp n (-k) * nfv n k l = zp n (-k) * (zp n (-(w.length : Int)) * pos n x) := by rw [e]
  unfold nfv at e2
  rw [← G_assoc, ← G_assoc, zp_addI, zp_addI, show -k + k = 0 by omega, zp_zero, G_one_mul, show -k + -(w.length : Int) = ((j + 1 : Nat) : Int) by omega, zp_nat, npow_dl, ← pos_mul (In_pt _) h1] at e2
  have e3 := pos_inj h.inn (In_mul.2 ⟨In_pt _, h1⟩) e2
  refine h.no_tw hn ⟨pw (Gar.tw n) j * x, ?_⟩
  rw [e3, pw, mul_assoc]
theorem power_le {n : Nat} (hn : 2 ≤ n) {k : Int} {l : List M} (h : NF n l) {w : List Int} (e : nfv n k l = gp n w) : k ≤ (w.length : Int) := by
  obtain ⟨l', h1, h2, h3⟩ := nf_inv (k := k) h
  have e2 : nfv n (-k - (l.length : Int)) l' = gp n (iw w) := by rw [← h3, e]; rfl
  have h4 := power_ge hn h1 e2
  have h5 : (iw w).length = w.length := by unfold iw; simp
  rw [h5] at h4
  omega
end Gar
end Go.Proofs.Ytoaiblhlpdaeoaa
/- How many factors a normal form can have: at most one for each letter of a word. -/
namespace Go.Proofs.Ytoaiblhlpdaeoaa
set_option linter.unusedVariables false
set_option linter.unusedSimpArgs false
namespace Gar

def negs (w : List Int) : Nat := w.countP fun y => decide (y < 0)
def poss (w : List Int) : Nat := w.countP fun y => decide (0 < y)
theorem negs_cons (y : Int) (w : List Int) : negs (y :: w) = negs w + if y < 0 then 1 else 0 := by
  unfold negs
  rw [List.countP_cons]
  simp
theorem sum_le (w : List Int) : negs w + poss w ≤ w.length := by
  induction w with
  | nil => exact Nat.le_refl _
  | cons y w ih =>
    rw [negs_cons, List.length_cons]
    have : poss (y :: w) = poss w + if 0 < y then 1 else 0 := by
      unfold poss
      rw [List.countP_cons]
      simp
    rw [this]
    by_cases h1 : y < 0
    · rw [if_pos h1, if_neg (by omega)]; omega
    · rw [if_neg h1]
      split <;> omega
end Gar
end Go.Proofs.Ytoaiblhlpdaeoaa
/- More facts of operations in regions that draw their order: function values, minima and maxima of integers, three at once. -/
namespace Go.Proofs.Ytoaiblhlpdaeoaa
set_option linter.unusedVariables false
set_option linter.unusedSimpArgs false
open Go.RowKit Go.Maps

theorem gives_maxI {P : Program} {o : Oper} {a : Act} {w : World} {x y : Operand} {ts : Array TypeId} {m n r : Int} (ho : o.op = .call { callee := .builtin .max, args := #[x, y], argTypes := ts }) (hx : a.eval x = .int .i64 m) (hy : a.eval y = .int .i64 n) (h : max m n = r) : Gives P o a w (.int .i64 r) := by
  have hr : (if n > m then n else m) = r := by
    by_cases h1 : n > m
    · rw [if_pos h1]; omega
    · rw [if_neg h1]; omega
  unfold Gives execOp
  rw [ho]
  simp only [resolve, invoke, builtin, Sem.run_bind, Sem.run_pure, Result.andThen_ok, List.map_toArray, List.map_cons, List.map_nil, hx, hy, run_max_int2, hr]
end Go.Proofs.Ytoaiblhlpdaeoaa
/- DEHORNOY: reducing handles ends. -/
namespace Go.Proofs.Ytoaiblhlpdaeoaa
set_option linter.unusedVariables false
set_option linter.unusedSimpArgs false
namespace Gar

theorem Dr.val {n : Nat} {b : M} (hb : In n b) : ∀ {w : List Int} {x y : M}, (∀ l ∈ w, okl n l) → Dr b x w y → pos n x * gp n w = pos n y
  | [], x, y, _, h => by rw [gp_one, G_mul_one, h.2]
  | l :: w, x, y, hw, ⟨h0, z, e, h⟩ => by
    have ih := Dr.val hb (fun k hk => hw k (by simp [hk])) h
    have hx := In_dv h0 hb
    have hz := In_dv h.start hb
    rw [gp_cons, ← ih, ← G_assoc]
    congr 1
    obtain ⟨i, hi, rfl | rfl⟩ := letter_of (hw l (by simp))
    · rw [e.pos, pos_mul hx (In_g hi), pos_g hi]
    · have e2 := e.neg
      rw [e2] at hx
      rw [e2, pos_mul (In_mul.1 hx).1 (In_g hi), pos_g hi, G_assoc, gp_pair, G_mul_one]
/-! ### ranks -/
/-- From x to y by a word with m, without -m and smaller letters. -/
def Bel (n m : Nat) (x y : M) : Prop := ∃ u, (∀ l ∈ u, okl n l) ∧ (∀ l ∈ u, m + 1 ≤ l.natAbs ∧ l ≠ -up m) ∧ up m ∈ u ∧ pos n x * gp n u = pos n y
/-- From x to y by a word of letters greater than m. -/
def Neu (n m : Nat) (x y : M) : Prop := ∃ u, (∀ l ∈ u, okl n l) ∧ (∀ l ∈ u, m + 2 ≤ l.natAbs) ∧ pos n x * gp n u = pos n y
theorem Bel.trans {n m : Nat} {x y z : M} (h : Bel n m x y) (k : Bel n m y z) : Bel n m x z := by
  obtain ⟨u, h1, h2, h3, h4⟩ := h
  obtain ⟨v, k1, k2, k3, k4⟩ := k
  refine ⟨u ++ v, fun l hl => (List.mem_append.1 hl).elim (h1 l) (k1 l), fun l hl => (List.mem_append.1 hl).elim (h2 l) (k2 l), List.mem_append.2 (.inl h3), ?_⟩
  rw [← gp_mul, ← G_assoc, h4, k4]
theorem Bel.neu {n m : Nat} {x y z : M} (h : Bel n m x y) (k : Neu n m y z) : Bel n m x z := by
  obtain ⟨u, h1, h2, h3, h4⟩ := h
  obtain ⟨v, k1, k2, k4⟩ := k
  refine ⟨u ++ v, fun l hl => (List.mem_append.1 hl).elim (h1 l) (k1 l), fun l hl => (List.mem_append.1 hl).elim (h2 l) (fun q => ?_), List.mem_append.2 (.inl h3), ?_⟩
  · have := k2 l q
    unfold up
    omega
  · rw [← gp_mul, ← G_assoc, h4, k4]
theorem iw_mem {w : List Int} {l : Int} : l ∈ iw w ↔ -l ∈ w := by
  unfold iw
  rw [List.mem_reverse, List.mem_map]
  constructor
  · rintro ⟨a, ha, rfl⟩
    rwa [Int.neg_neg]
  · intro h
    exact ⟨-l, h, Int.neg_neg l⟩
theorem Neu.symm {n m : Nat} {x y : M} (h : Neu n m x y) : Neu n m y x := by
  obtain ⟨u, h1, h2, h4⟩ := h
  refine ⟨iw u, fun l hl => ?_, fun l hl => ?_, ?_⟩
  · have := (h1 _ (iw_mem.1 hl)).neg
    rwa [Int.neg_neg] at this
  · have := h2 _ (iw_mem.1 hl)
    omega
  · rw [← h4, G_assoc, gp_iw, G_mul_one]
/-! ### the measure -/
open Classical in
noncomputable def nx (x : M) (l : Int) : M := if h : ∃ y, Edge x l y then Classical.choose h else x
theorem nx_eq {x y : M} {l : Int} (h : Edge x l y) : nx x l = y := by
  unfold nx
  rw [dif_pos ⟨y, h⟩]
  exact (Classical.choose_spec (⟨y, h⟩ : ∃ y, Edge x l y)).det h
def cont (q s : Int) (r R : Nat) : Nat := if q = 1 ∧ s = -1 then r + 1 else if q = -1 ∧ s = 1 then R - r + 1 else 0
noncomputable def ph (m : Nat) (ρ : M → Nat) (R : Nat) : Int → M → List Int → Nat
  | _, _, [] => 0
  | q, x, l :: w => if l = up m then cont q 1 (ρ x) R + ph m ρ R 1 (nx x l) w else if l = -up m then cont q (-1) (ρ x) R + ph m ρ R (-1) (nx x l) w else ph m ρ R q (nx x l) w
def lq (m : Nat) : Int → List Int → Int
  | q, [] => q
  | q, l :: w => if l = up m then lq m 1 w else if l = -up m then lq m (-1) w else lq m q w
section
variable {m R : Nat} {ρ : M → Nat} {b : M}
theorem ph_append : ∀ {u : List Int} {x z : M} (v : List Int) (q : Int), Dr b x u z → ph m ρ R q x (u ++ v) = ph m ρ R q x u + ph m ρ R (lq m q u) z v
  | [], x, z, v, q, h => by rw [← h.2]; show _ = 0 + _; rw [Nat.zero_add]; rfl
  | l :: u, x, z, v, q, ⟨_, y, e, h⟩ => by
    rw [List.cons_append, ph, ph, lq, nx_eq e]
    by_cases c1 : l = up m
    · rw [if_pos c1, if_pos c1, if_pos c1, ph_append v 1 h, Nat.add_assoc]
    rw [if_neg c1, if_neg c1, if_neg c1]
    by_cases c2 : l = -up m
    · rw [if_pos c2, if_pos c2, if_pos c2, ph_append v (-1) h, Nat.add_assoc]
    rw [if_neg c2, if_neg c2, if_neg c2, ph_append v q h]
/-- The ranks fit the drawing. -/
structure Fit (n m : Nat) (b : M) (ρ : M → Nat) (R : Nat) : Prop where
  up_ : ∀ {x y : M}, dv x b → dv y b → Edge x (up m) y → ρ x < ρ y
  dn : ∀ {x y : M}, dv x b → dv y b → Edge x (-up m) y → ρ y < ρ x
  ne : ∀ {x y : M} {l : Int}, dv x b → dv y b → okl n l → m + 2 ≤ l.natAbs → Edge x l y → ρ x = ρ y
  le : ∀ x, ρ x ≤ R
variable {n : Nat}
theorem neu_not {l : Int} (h : m + 2 ≤ l.natAbs) : l ≠ up m ∧ l ≠ -up m := by unfold up; omega
theorem Fit.neu (F : Fit n m b ρ R) : ∀ {u : List Int} {x z : M} (q : Int), (∀ l ∈ u, okl n l ∧ m + 2 ≤ l.natAbs) → Dr b x u z → ph m ρ R q x u = 0 ∧ lq m q u = q ∧ ρ x = ρ z
  | [], x, z, q, _, h => ⟨rfl, rfl, by rw [h.2]⟩
  | l :: u, x, z, q, hu, ⟨h0, y, e, h⟩ => by
    obtain ⟨k1, k2⟩ := hu l (by simp)
    obtain ⟨c1, c2⟩ := neu_not k2
    have ih := F.neu q (fun k hk => hu k (by simp [hk])) h
    rw [ph, lq, if_neg c1, if_neg c2, if_neg c1, if_neg c2, nx_eq e, F.ne h0 h.start k1 k2 e]
    exact ih
/-- What comes behind asks for the last sign once. -/
theorem Fit.behind (F : Fit n m b ρ R) : ∀ {u : List Int} {x z : M}, (∀ l ∈ u, okl n l ∧ m + 1 ≤ l.natAbs) → Dr b x u z → ∃ s T, ∀ q, ph m ρ R q x u = cont q s (ρ x) R + T
  | [], x, z, _, _ => ⟨0, 0, fun q => by unfold cont; rw [if_neg (by omega), if_neg (by omega)]; rfl⟩
  | l :: u, x, z, hu, ⟨h0, y, e, h⟩ => by
    by_cases c1 : l = up m
    · exact ⟨1, ph m ρ R 1 (nx x l) u, fun q => by rw [ph, if_pos c1]⟩
    by_cases c2 : l = -up m
    · exact ⟨-1, ph m ρ R (-1) (nx x l) u, fun q => by rw [ph, if_neg c1, if_pos c2]⟩
    obtain ⟨k1, k2⟩ := hu l (by simp)
    obtain ⟨s, T, hs⟩ := F.behind (fun k hk => hu k (by simp [hk])) h
    refine ⟨s, T, fun q => ?_⟩
    rw [ph, if_neg c1, if_neg c2, nx_eq e, hs q, F.ne h0 h.start k1 (by unfold up at c1 c2; omega) e]
/-- A word in which m has one sign. -/
theorem Fit.mono (F : Fit n m b ρ R) {d : Bool} : ∀ {u : List Int} {x z : M} (q : Int), (∀ l ∈ u, okl n l ∧ m + 1 ≤ l.natAbs ∧ l ≠ hlet (!d) m) → Dr b x u z →
    (ph m ρ R q x u = 0 ∧ lq m q u = q ∧ ρ x = ρ z) ∨ (ph m ρ R q x u = cont q (if d then 1 else -1) (ρ x) R ∧ lq m q u = if d then 1 else -1)
  | [], x, z, q, _, h => .inl ⟨rfl, rfl, by rw [h.2]⟩
  | l :: u, x, z, q, hu, ⟨h0, y, e, h⟩ => by
    obtain ⟨k1, k2, k3⟩ := hu l (by simp)
    have zero : ∀ s r, cont s s r R = 0 := fun s r => by unfold cont; rw [if_neg (by omega), if_neg (by omega)]
    by_cases c : l = hlet d m
    · right
      have ih := F.mono (if d then 1 else -1) (fun k hk => hu k (by simp [hk])) h
      cases d with
      | true =>
        have c : l = up m := c
        rw [ph, lq, if_pos c, if_pos c, nx_eq e]
        rcases ih with ⟨i1, i2, _⟩ | ⟨i1, i2⟩
        · exact ⟨by show cont q 1 _ _ + _ = _; rw [show ph m ρ R 1 y u = 0 from i1]; rfl, i2⟩
        · exact ⟨by show cont q 1 _ _ + _ = _; rw [show ph m ρ R 1 y u = cont 1 1 _ _ from i1, zero]; rfl, i2⟩
      | false =>
        have c : l = -up m := c
        have c' : l ≠ up m := fun k => up_ne _ _ (k.symm.trans c)
        rw [ph, lq, if_neg c', if_pos c, if_neg c', if_pos c, nx_eq e]
        rcases ih with ⟨i1, i2, _⟩ | ⟨i1, i2⟩
        · exact ⟨by show cont q (-1) _ _ + _ = _; rw [show ph m ρ R (-1) y u = 0 from i1]; rfl, i2⟩
        · exact ⟨by show cont q (-1) _ _ + _ = _; rw [show ph m ρ R (-1) y u = cont (-1) (-1) _ _ from i1, zero]; rfl, i2⟩
    · have c1 : l ≠ up m ∧ l ≠ -up m := by
        cases d with
        | true => exact ⟨c, k3⟩
        | false => exact ⟨k3, c⟩
      have k4 : m + 2 ≤ l.natAbs := by obtain ⟨a, b⟩ := c1; unfold up at a b; omega
      have ih := F.mono q (fun k hk => hu k (by simp [hk])) h
      rw [ph, lq, if_neg c1.1, if_neg c1.2, if_neg c1.1, if_neg c1.2, nx_eq e, F.ne h0 h.start k1 k4 e]
      exact ih
end
end Gar
end Go.Proofs.Ytoaiblhlpdaeoaa
/- DEHORNOY: reducing handles ends; ARTIN: a word that acts as the identity on the free group is a trivial braid. -/
namespace Go.Proofs.Ytoaiblhlpdaeoaa
set_option linter.unusedVariables false
set_option linter.unusedSimpArgs false
namespace Gar

/-- One handle is reduced. -/
inductive HS (i : Nat) : List Int → List Int → Prop
  | mk (A B v : List Int) (e : Bool) (hv : InsOk i v) : HS i (A ++ (hlet e i :: (v ++ [hlet (!e) i]) ++ B)) (A ++ (v.flatMap (hsub e i) ++ B))
theorem HS.dr {i : Nat} {w w' : List Int} {b x y : M} (h : HS i w w') (d : Dr b x w y) : Dr b x w' y := by
  cases h with
  | mk A B v e hv =>
    obtain ⟨z, d1, d2⟩ := Dr.app.1 d
    obtain ⟨t, d3, d4⟩ := Dr.app.1 d2
    exact Dr.app.2 ⟨z, d1, Dr.app.2 ⟨t, Dr.handle hv d3, d4⟩⟩
/-- Letters on n strands, none smaller than m. -/
def Lo (n m : Nat) (w : List Int) : Prop := ∀ l ∈ w, okl n l ∧ m + 1 ≤ l.natAbs
theorem Lo.app {n m : Nat} {u v : List Int} : Lo n m (u ++ v) ↔ Lo n m u ∧ Lo n m v := by
  unfold Lo
  constructor
  · intro h
    exact ⟨fun l hl => h l (List.mem_append.2 (.inl hl)), fun l hl => h l (List.mem_append.2 (.inr hl))⟩
  · rintro ⟨h1, h2⟩ l hl
    exact (List.mem_append.1 hl).elim (h1 l) (h2 l)
theorem Lo.cons {n m : Nat} {l : Int} {v : List Int} : Lo n m (l :: v) ↔ (okl n l ∧ m + 1 ≤ l.natAbs) ∧ Lo n m v := by
  unfold Lo
  simp only [List.mem_cons]
  constructor
  · intro h
    exact ⟨h l (.inl rfl), fun k hk => h k (.inr hk)⟩
  · rintro ⟨h1, h2⟩ k (rfl | hk)
    · exact h1
    · exact h2 k hk
theorem Lo.sub {n m i : Nat} (e : Bool) (hi : m ≤ i) {v : List Int} (h : Lo n m v) : Lo n m (v.flatMap (hsub e i)) := fun l hl => by
  obtain ⟨k, hk, hl⟩ := List.mem_flatMap.1 hl
  have h1 := h k hk
  unfold hsub at hl
  by_cases c1 : k = up (i + 1)
  · rw [if_pos c1] at hl
    rw [c1] at h1
    unfold okl up at h1
    cases e <;> simp at hl <;> rcases hl with rfl | rfl | rfl <;> unfold okl up <;> omega
  rw [if_neg c1] at hl
  by_cases c2 : k = -up (i + 1)
  · rw [if_pos c2] at hl
    rw [c2] at h1
    unfold okl up at h1
    cases e <;> simp at hl <;> rcases hl with rfl | rfl | rfl <;> unfold okl up <;> omega
  rw [if_neg c2] at hl
  simp at hl
  rw [hl]
  exact h1
theorem hlet_abs (e : Bool) (i : Nat) : (hlet e i).natAbs = i + 1 := by cases e <;> (unfold hlet up; simp; try omega)
theorem HS.lo {n m i : Nat} {w w' : List Int} (h : HS i w w') (hw : Lo n m w) : Lo n m w' ∧ m ≤ i ∧ i + 1 < n := by
  cases h with
  | mk A B v e hv =>
    obtain ⟨h1, h2⟩ := Lo.app.1 hw
    rw [List.cons_append, Lo.cons] at h2
    obtain ⟨⟨h3, h4⟩, h5⟩ := h2
    obtain ⟨h6, h7⟩ := Lo.app.1 h5
    obtain ⟨h8, _⟩ := Lo.app.1 h6
    rw [hlet_abs] at h4
    have h9 := h3.2
    rw [hlet_abs] at h9
    exact ⟨Lo.app.2 ⟨h1, Lo.app.2 ⟨h8.sub e (by omega), h7⟩⟩, by omega, h9⟩
theorem Ins.ge {i : Nat} {l : Int} (h : Ins i l) : i + 2 ≤ l.natAbs := by
  cases h with
  | far k h => unfold up; omega
  | farn k h => unfold up; omega
  | p => unfold up; omega
  | n => unfold up; omega
section
variable {n m : Nat} {b : M} {ρ : M → Nat} {R : Nat}
theorem Lo.neu {u : List Int} (h : Lo n (m + 1) u) : ∀ l ∈ u, okl n l ∧ m + 2 ≤ l.natAbs := h
/-- The signs of m in what a handle of m becomes. -/
theorem sub_sign {e : Bool} {v : List Int} (hv : InsOk m v) : ∃ d : Bool, ∀ l ∈ v.flatMap (hsub e m), l ≠ hlet (!d) m := by
  obtain ⟨hI, hs⟩ := hv
  refine ⟨if up (m + 1) ∈ v then true else false, fun l hl => ?_⟩
  obtain ⟨k, hk, hl⟩ := List.mem_flatMap.1 hl
  have hg := (hI k hk).ge
  unfold hsub at hl
  by_cases c1 : k = up (m + 1)
  · rw [if_pos c1] at hl
    rw [if_pos (c1 ▸ hk)]
    cases e <;> simp at hl <;> rcases hl with rfl | rfl | rfl <;> unfold hlet up <;> simp <;> omega
  rw [if_neg c1] at hl
  by_cases c2 : k = -up (m + 1)
  · rw [if_pos c2] at hl
    have : up (m + 1) ∉ v := fun q => by
      rcases hs with hs | hs
      · exact hs q
      · exact hs (c2 ▸ hk)
    rw [if_neg this]
    cases e <;> simp at hl <;> rcases hl with rfl | rfl | rfl <;> unfold hlet up <;> simp <;> omega
  rw [if_neg c2] at hl
  simp at hl
  subst hl
  intro q
  have := congrArg Int.natAbs q
  rw [hlet_abs] at this
  omega
theorem cont_a (q : Int) (r R : Nat) : cont q (-1) r R ≤ r + 1 := by
  unfold cont
  rw [if_neg (c := q = -1 ∧ (-1 : Int) = 1) (by omega)]
  split <;> omega
theorem cont_b (s : Int) (r R : Nat) : cont 1 s r R ≤ r + 1 := by
  unfold cont
  rw [if_neg (c := (1 : Int) = -1 ∧ s = 1) (by omega)]
  split <;> omega
theorem cont_c (q : Int) (r R : Nat) : cont q 1 r R ≤ R - r + 1 := by
  unfold cont
  rw [if_neg (c := q = 1 ∧ (1 : Int) = -1) (by omega)]
  split <;> omega
theorem cont_d (s : Int) (r R : Nat) : cont (-1) s r R ≤ R - r + 1 := by
  unfold cont
  rw [if_neg (c := (-1 : Int) = 1 ∧ s = -1) (by omega)]
  split <;> omega
theorem cont_e (r R : Nat) : cont 1 (-1) r R = r + 1 := rfl
theorem cont_f (r R : Nat) : cont (-1) 1 r R = R - r + 1 := rfl
theorem cont_t {q s : Int} {r p R : Nat} (h : r < p) : cont q s r R < cont q 1 r R + (0 + (cont 1 (-1) p R + 0)) + cont (-1) s r R := by
  rw [cont_e]
  by_cases c : q = 1 ∧ s = -1
  · have : cont q s r R = r + 1 := by unfold cont; rw [if_pos c]
    omega
  by_cases c2 : q = -1 ∧ s = 1
  · obtain ⟨rfl, rfl⟩ := c2
    omega
  · have : cont q s r R = 0 := by unfold cont; rw [if_neg c, if_neg c2]
    omega
theorem cont_u {q s : Int} {r p R : Nat} (h : p < r) (hR : r ≤ R) : cont q s r R < cont q (-1) r R + (0 + (cont (-1) 1 p R + 0)) + cont 1 s r R := by
  rw [cont_f]
  by_cases c : q = 1 ∧ s = -1
  · obtain ⟨rfl, rfl⟩ := c
    omega
  by_cases c2 : q = -1 ∧ s = 1
  · have : cont q s r R = R - r + 1 := by unfold cont; rw [if_neg c, if_pos c2]
    omega
  · have : cont q s r R = 0 := by unfold cont; rw [if_neg c, if_neg c2]
    omega
theorem lq_app (m : Nat) : ∀ (u u' : List Int) (q : Int), lq m q (u ++ u') = lq m (lq m q u) u'
  | [], u', q => rfl
  | l :: u, u', q => by
    rw [List.cons_append, lq, lq]
    by_cases c1 : l = up m
    · rw [if_pos c1, if_pos c1, lq_app m u]
    rw [if_neg c1, if_neg c1]
    by_cases c2 : l = -up m
    · rw [if_pos c2, if_pos c2, lq_app m u]
    rw [if_neg c2, if_neg c2, lq_app m u]
/-- Reducing a handle of m makes the measure smaller. -/
theorem HS.less (F : Fit n m b ρ R) {w w' : List Int} {x y : M} (h : HS m w w') (hw : Lo n m w) (d : Dr b x w y) : ph m ρ R 0 x w' < ph m ρ R 0 x w := by
  have hlo := (h.lo hw).1
  cases h with
  | mk A B v e hv =>
    obtain ⟨z, d1, d2⟩ := Dr.app.1 d
    rw [ph_append _ _ d1, ph_append _ _ d1]
    generalize lq m 0 A = q
    obtain ⟨z', d3, d4⟩ := Dr.app.1 d2
    have d5 := Dr.handle hv d3
    rw [ph_append _ _ d3, ph_append _ _ d5]
    have hB : Lo n m B := (Lo.app.1 (Lo.app.1 hlo).2).2
    have hH : Lo n m (v.flatMap (hsub e m)) := (Lo.app.1 (Lo.app.1 hlo).2).1
    obtain ⟨s, T, hs⟩ := F.behind hB d4
    rw [hs, hs]
    -- the handle
    obtain ⟨k0, x1, e1, d6⟩ := d3
    obtain ⟨y1, d7, d8⟩ := Dr.app.1 d6
    obtain ⟨k1, z'', e2, k2, rfl⟩ := d8
    have hvn : ∀ l ∈ v, okl n l ∧ m + 2 ≤ l.natAbs := fun l hl => ⟨((Lo.app.1 hw).2 l (by simp [hl])).1, (hv.1 l hl).ge⟩
    have hn := fun q => F.neu q hvn d7
    obtain ⟨f, hf⟩ := sub_sign (e := e) hv
    have hmo := F.mono (d := f) q (fun l hl => ⟨(hH l hl).1, (hH l hl).2, hf l hl⟩) d5
    have l1 := F.le z
    have l2 := F.le z''
    have l3 := F.le y1
    cases e with
    | true =>
      have r1 := F.up_ k0 d7.start e1
      have r2 := F.dn k1 k2 e2
      rw [(hn 1).2.2] at r1
      have p1 : ph m ρ R q z (hlet true m :: (v ++ [hlet (!true) m])) = cont q 1 (ρ z) R + (0 + (cont 1 (-1) (ρ y1) R + 0)) := by
        show (if up m = up m then _ else _) = _
        rw [if_pos rfl, nx_eq e1, ph_append _ _ d7, (hn 1).1, (hn 1).2.1]
        show _ + (0 + (if -up m = up m then _ else if -up m = -up m then _ else _)) = _
        rw [if_neg (fun h => up_ne _ _ h.symm), if_pos rfl]
        rfl
      have p2 : lq m q (hlet true m :: (v ++ [hlet (!true) m])) = -1 := by
        show (if up m = up m then _ else _) = _
        rw [if_pos rfl, lq_app, (hn 1).2.1]
        show (if -up m = up m then _ else if -up m = -up m then _ else _) = _
        rw [if_neg (fun h => up_ne _ _ h.symm), if_pos rfl]
        rfl
      rw [p1, p2]
      rcases hmo with ⟨a1, a2, a3⟩ | ⟨a1, a2⟩
      · rw [a1, a2, a3]
        have := cont_t (q := q) (s := s) (R := R) r2
        omega
      · rw [a1, a2, cont_e]
        have u1 := cont_a q (ρ z) R
        have u2 := cont_b s (ρ z'') R
        cases f <;> simp only [if_true, if_false, Bool.false_eq_true] <;> omega
    | false =>
      have r1 := F.dn k0 d7.start e1
      have r2 := F.up_ k1 k2 e2
      rw [(hn (-1)).2.2] at r1
      have p1 : ph m ρ R q z (hlet false m :: (v ++ [hlet (!false) m])) = cont q (-1) (ρ z) R + (0 + (cont (-1) 1 (ρ y1) R + 0)) := by
        show (if -up m = up m then _ else (if -up m = -up m then _ else _)) = _
        rw [if_neg (fun h => up_ne _ _ h.symm), if_pos rfl, nx_eq e1, ph_append _ _ d7, (hn (-1)).1, (hn (-1)).2.1]
        show _ + (0 + (if up m = up m then _ else _)) = _
        rw [if_pos rfl]
        rfl
      have p2 : lq m q (hlet false m :: (v ++ [hlet (!false) m])) = 1 := by
        show (if -up m = up m then _ else (if -up m = -up m then _ else _)) = _
        rw [if_neg (fun h => up_ne _ _ h.symm), if_pos rfl, lq_app, (hn (-1)).2.1]
        show (if up m = up m then _ else _) = _
        rw [if_pos rfl]
        rfl
      rw [p1, p2]
      rcases hmo with ⟨a1, a2, a3⟩ | ⟨a1, a2⟩
      · rw [a1, a2, a3]
        have := cont_u (q := q) (s := s) r2 l2
        omega
      · rw [a1, a2, cont_f]
        have u1 := cont_c q (ρ z) R
        have u2 := cont_d s (ρ z'') R
        cases f <;> simp only [if_true, if_false, Bool.false_eq_true] <;> omega
/-- Reducing a handle of a greater letter leaves it. -/
theorem HS.same (F : Fit n m b ρ R) {i : Nat} (hi : m < i) {w w' : List Int} {x y : M} (h : HS i w w') (hw : Lo n m w) (d : Dr b x w y) : ph m ρ R 0 x w' = ph m ρ R 0 x w := by
  have hlo := (h.lo hw).1
  have hin := (h.lo hw).2.2
  cases h with
  | mk A B v e hv =>
    obtain ⟨z, d1, d2⟩ := Dr.app.1 d
    rw [ph_append _ _ d1, ph_append _ _ d1]
    generalize lq m 0 A = q
    obtain ⟨z', d3, d4⟩ := Dr.app.1 d2
    have d5 := Dr.handle hv d3
    rw [ph_append _ _ d3, ph_append _ _ d5]
    have g1 : ∀ l ∈ hlet e i :: (v ++ [hlet (!e) i]), okl n l ∧ m + 2 ≤ l.natAbs := fun l hl => by
      refine ⟨((Lo.app.1 hw).2 l (by rw [List.cons_append] at *; simp at hl ⊢; grind)).1, ?_⟩
      simp at hl
      rcases hl with rfl | hl | rfl
      · rw [hlet_abs]; omega
      · have := (hv.1 l hl).ge; omega
      · rw [hlet_abs]; omega
    have g2 : Lo n (m + 1) v := fun l hl => g1 l (by simp [hl])
    have g3 := g2.sub e (by omega : m + 1 ≤ i)
    have a := F.neu q g1 d3
    have c := F.neu q g3 d5
    rw [a.1, a.2.1, c.1, c.2.1]
end
end Gar
end Go.Proofs.Ytoaiblhlpdaeoaa
/- DEHORNOY: reducing handles ends for each word; what is left has one sign. ARTIN: the representation is faithful. -/
namespace Go.Proofs.Ytoaiblhlpdaeoaa
set_option linter.unusedVariables false
set_option linter.unusedSimpArgs false
namespace Gar

/-! ### each word is drawn somewhere -/
theorem draw_from {n C : Nat} : ∀ (w : List Int) (a c_ : Nat) (x x' z : M), (∀ l ∈ w, okl n l) → In n x' → In n z → x = pw (full n) a * x' → x * z = pw (full n) c_ → w.length ≤ a → c_ + w.length ≤ C → ∃ y, Dr (pw (full n) C) x w y
  | [], a, c_, x, x', z, _, h1, h2, e1, e2, _, hC => by
    refine ⟨x, ⟨z * pw (full n) (C - c_), ?_⟩, rfl⟩
    rw [← mul_assoc, e2, ← pw_add]
    congr 1
    simp at hC
    omega
  | l :: w, a, c_, x, x', z, hw, h1, h2, e1, e2, ha, hC => by
    simp only [List.length_cons] at ha hC
    have hdv : dv x (pw (full n) C) := ⟨z * pw (full n) (C - c_), by
      rw [← mul_assoc, e2, ← pw_add]
      congr 1
      omega⟩
    have hx : In n x := In_dv hdv (In_pw C)
    obtain ⟨a', rfl⟩ : ∃ a', a = a' + 1 := ⟨a - 1, by omega⟩
    have hfx : ∀ t : M, In n t → full n * t = t * full n := fun t ht => (full_comm ht).symm
    obtain ⟨i, hi, rfl | rfl⟩ := letter_of (hw l (by simp))
    · obtain ⟨hz, z1, z2⟩ := zeta_spec hi
      obtain ⟨y, hy⟩ := draw_from (C := C) w a' (c_ + 1) (x * g i) (full n * (x' * g i)) (zeta n i * z) (fun k hk => hw k (by simp [hk])) (In_mul.2 ⟨In_full n, In_mul.2 ⟨h1, In_g hi⟩⟩) (In_mul.2 ⟨hz, h2⟩)
        (by rw [e1, pw, ← mul_assoc (pw (full n) a'), pw_comm (In_full n) a' |>.symm, mul_assoc, mul_assoc])
        (by
          rw [mul_assoc, ← mul_assoc (g i), ← c_g, ← z1, ← mul_assoc, full_comm hx, mul_assoc, e2, pw])
        (by omega) (by omega)
      exact ⟨y, hdv, x * g i, .p _ _, hy⟩
    · obtain ⟨hz, z1, z2⟩ := zeta_spec hi
      have e3 : x = pw (full n) a' * (x' * zeta n i) * g i := by
        rw [e1, pw, pw_comm (In_full n) a', mul_assoc, hfx x' h1, z2, mul_assoc, mul_assoc]
      obtain ⟨y, hy⟩ := draw_from (C := C) w a' (c_ + 1) (pw (full n) a' * (x' * zeta n i)) (x' * zeta n i) (g i * (z * full n)) (fun k hk => hw k (by simp [hk])) (In_mul.2 ⟨h1, hz⟩) (In_mul.2 ⟨In_g hi, In_mul.2 ⟨h2, In_full n⟩⟩) rfl
        (by rw [← mul_assoc, ← e3, ← mul_assoc, e2, pw, pw_comm (In_full n)])
        (by omega) (by omega)
      refine ⟨y, hdv, _, ?_, hy⟩
      rw [e3]
      exact .n _ _
theorem drawn {n : Nat} {w : List Int} (hw : ∀ l ∈ w, okl n l) : ∃ b x y, In n b ∧ Dr b x w y := by
  obtain ⟨y, hy⟩ := draw_from (C := w.length + w.length) w w.length w.length (pw (full n) w.length) 1 1 hw (In_one n) (In_one n) (mul_one _).symm (mul_one _) (Nat.le_refl _) (Nat.le_refl _)
  exact ⟨_, _, y, In_pw _, hy⟩
theorem HS.val {n i : Nat} {w w' : List Int} (h : HS i w w') (hw : Lo n 0 w) : gp n w' = gp n w := by
  obtain ⟨b, x, y, hb, d⟩ := drawn fun l hl => (hw l hl).1
  have h1 := Dr.val hb (fun l hl => (hw l hl).1) d
  have h2 := Dr.val hb (fun l hl => ((h.lo hw).1 l hl).1) (h.dr d)
  exact G_cancel (h2.trans h1.symm)

/-! ### it ends -/
theorem hdl_ge {i : Nat} {e : Bool} {v : List Int} (hv : InsOk i v) : ∀ l ∈ hlet e i :: (v ++ [hlet (!e) i]), i + 1 ≤ l.natAbs := fun l hl => by
  simp at hl
  rcases hl with rfl | hl | rfl
  · rw [hlet_abs]; omega
  · have := (hv.1 l hl).ge; omega
  · rw [hlet_abs]; omega
theorem HS.split {i : Nat} {w w' u t : List Int} {s : Int} (h : HS i w w') (e : w = u ++ s :: t) (hs : s.natAbs ≤ i) : (∃ u', HS i u u' ∧ w' = u' ++ s :: t) ∨ ∃ t', HS i t t' ∧ w' = u ++ s :: t' := by
  cases h with
  | mk A B v f hv =>
    have hg := hdl_ge (e := f) hv
    have hne : hlet f i :: (v ++ [hlet (!f) i]) ≠ [] := by simp
    have hsub : ∀ A B : List Int, HS i (A ++ ((hlet f i :: (v ++ [hlet (!f) i])) ++ B)) (A ++ (v.flatMap (hsub f i) ++ B)) := fun A B => HS.mk A B v f hv
    generalize hlet f i :: (v ++ [hlet (!f) i]) = H at *
    generalize v.flatMap (Gar.hsub f i) = H' at *
    rcases List.append_eq_append_iff.1 e with ⟨a', h1, h2⟩ | ⟨c', h1, h2⟩
    · rcases List.append_eq_append_iff.1 h2 with ⟨d, q1, q2⟩ | ⟨d, q1, q2⟩
      · left
        refine ⟨A ++ (H' ++ d), ?_, ?_⟩
        · rw [h1, q1]; exact hsub A d
        · rw [q2]; simp
      · cases d with
        | nil =>
          left
          rw [List.append_nil] at q1
          rw [List.nil_append] at q2
          refine ⟨A ++ (H' ++ []), ?_, ?_⟩
          · rw [h1, ← q1]
            have := hsub A []
            rwa [List.append_nil] at this
          · rw [← q2]; simp
        | cons k d =>
          exfalso
          injection q2 with q2 q3
          have := hg k (by rw [q1]; simp)
          rw [← q2] at this
          omega
    · cases c' with
      | nil =>
        rw [List.nil_append] at h2
        cases H with
        | nil => exact absurd rfl hne
        | cons k H =>
          exfalso
          injection h2 with h2 _
          have := hg k (by simp)
          rw [← h2] at this
          omega
      | cons k c' =>
        injection h2 with h2 h3
        right
        refine ⟨c' ++ (H' ++ B), ?_, ?_⟩
        · rw [h3]; exact hsub c' B
        · rw [h1, h2]; simp
/-! ### words without handles -/
def NoH (w : List Int) : Prop := ∀ i w', ¬ HS i w w'
theorem HS.ctx {i : Nat} {w w' : List Int} (h : HS i w w') (p q : List Int) : HS i (p ++ (w ++ q)) (p ++ (w' ++ q)) := by
  cases h with
  | mk A B v e hv =>
    have := HS.mk (p ++ A) (B ++ q) v e hv
    simpa using this
theorem both_pair {m : Nat} : ∀ {v : List Int}, up m ∈ v → -up m ∈ v → ∃ e A mid B, v = A ++ (hlet e m :: (mid ++ [hlet (!e) m]) ++ B) ∧ up m ∉ mid ∧ -up m ∉ mid
  | [], h, _ => by cases h
  | l :: v, h1, h2 => by
    by_cases hb : up m ∈ v ∧ -up m ∈ v
    · obtain ⟨e, A, mid, B, e1, e2⟩ := both_pair hb.1 hb.2
      exact ⟨e, l :: A, mid, B, by rw [e1]; rfl, e2⟩
    · have key : ∃ e, l = hlet e m ∧ hlet (!e) m ∈ v ∧ hlet e m ∉ v := by
        by_cases c : up m ∈ v
        · have c2 : -up m ∉ v := fun k => hb ⟨c, k⟩
          refine ⟨false, ?_, c, c2⟩
          rcases List.mem_cons.1 h2 with h | h
          · exact h.symm
          · exact absurd h c2
        · refine ⟨true, ?_, ?_, c⟩
          · rcases List.mem_cons.1 h1 with h | h
            · exact h.symm
            · exact absurd h c
          · rcases List.mem_cons.1 h2 with h | h
            · rcases List.mem_cons.1 h1 with k | k
              · exact absurd (k.trans h.symm) (up_ne _ _)
              · exact absurd k c
            · exact h
      obtain ⟨e, rfl, k1, k2⟩ := key
      obtain ⟨mid, B, rfl, k3⟩ := List.eq_append_cons_of_mem k1
      have k4 : hlet e m ∉ mid := fun k => k2 (List.mem_append.2 (.inl k))
      refine ⟨e, [], mid, B, by simp, ?_⟩
      cases e with
      | true => exact ⟨k4, k3⟩
      | false => exact ⟨k3, k4⟩
theorem ins_of {m : Nat} {l : Int} (h : m + 2 ≤ l.natAbs) : Ins m l := by
  by_cases c : l.natAbs = m + 2
  · rcases Int.natAbs_eq l with e | e
    · have : l = up (m + 1) := by unfold up; omega
      rw [this]; exact .p
    · have : l = -up (m + 1) := by unfold up; omega
      rw [this]; exact .n
  · rcases Int.natAbs_eq l with e | e
    · have : l = up (l.natAbs - 1) := by unfold up; omega
      rw [this]; exact .far _ (by omega)
    · have : l = -up (l.natAbs - 1) := by unfold up; omega
      rw [this]; exact .farn _ (by omega)
/-- A word with both signs of its smallest letter has a handle. -/
theorem has_handle {n : Nat} : ∀ (k m : Nat) {v : List Int}, n ≤ m + k → Lo n m v → up m ∈ v → -up m ∈ v → ∃ i v', HS i v v'
  | 0, m, v, hk, hv, h1, _ => by
    have := (hv _ h1).1.2
    unfold up at this
    omega
  | k + 1, m, v, hk, hv, h1, h2 => by
    obtain ⟨e, A, mid, B, rfl, k1, k2⟩ := both_pair h1 h2
    have hmid : Lo n (m + 1) mid := fun l hl => by
      have h3 := hv l (by simp [hl])
      have h4 : l ≠ up m := fun q => k1 (q ▸ hl)
      have h5 : l ≠ -up m := fun q => k2 (q ▸ hl)
      unfold up at h4 h5
      exact ⟨h3.1, by omega⟩
    by_cases c : up (m + 1) ∈ mid ∧ -up (m + 1) ∈ mid
    · obtain ⟨i, v', h⟩ := has_handle k (m + 1) (by omega) hmid c.1 c.2
      have := h.ctx (A ++ [hlet e m]) ([hlet (!e) m] ++ B)
      have e2 : A ++ (hlet e m :: (mid ++ [hlet (!e) m]) ++ B) = A ++ [hlet e m] ++ (mid ++ ([hlet (!e) m] ++ B)) := by simp
      rw [e2]
      exact ⟨i, _, this⟩
    · refine ⟨m, _, HS.mk A B mid e ⟨fun l hl => ins_of (hmid l hl).2, ?_⟩⟩
      by_cases q : up (m + 1) ∈ mid
      · exact .inr fun q2 => c ⟨q, q2⟩
      · exact .inl q
theorem least {n : Nat} : ∀ (k m : Nat) {v : List Int}, n ≤ m + k → Lo n m v → v ≠ [] → ∃ m', Lo n m' v ∧ ∃ l ∈ v, l.natAbs = m' + 1
  | 0, m, [], _, _, h => absurd rfl h
  | 0, m, l :: v, hk, hv, _ => by
    have := hv l (by simp)
    unfold okl at this
    omega
  | k + 1, m, v, hk, hv, h => by
    by_cases c : ∃ l ∈ v, l.natAbs = m + 1
    · exact ⟨m, hv, c⟩
    · refine least k (m + 1) (by omega) (fun l hl => ⟨(hv l hl).1, ?_⟩) h
      have h1 := (hv l hl).2
      have h2 : l.natAbs ≠ m + 1 := fun e => c ⟨l, hl, e⟩
      omega
/-- A word without handles has one sign of its smallest letter. -/
theorem NoH.sign {n : Nat} {v : List Int} (h : NoH v) (hv : Lo n 0 v) (hne : v ≠ []) : ∃ m d, Lo n m v ∧ hlet d m ∈ v ∧ hlet (!d) m ∉ v := by
  obtain ⟨m, hm, l, hl, e⟩ := least n 0 (by omega) hv hne
  have hb : ¬ (up m ∈ v ∧ -up m ∈ v) := fun ⟨a, b⟩ => by
    obtain ⟨i, v', q⟩ := has_handle n m (by omega) hm a b
    exact h i v' q
  rcases Int.natAbs_eq l with q | q
  · have : l = up m := by unfold up; omega
    subst this
    exact ⟨m, true, hm, hl, fun k => hb ⟨hl, k⟩⟩
  · have : l = -up m := by unfold up; omega
    subst this
    exact ⟨m, false, hm, hl, fun k => hb ⟨k, hl⟩⟩
theorem Lo.iw {n m : Nat} {w : List Int} (h : Lo n m w) : Lo n m (Gar.iw w) := fun l hl => by
  have := h _ (iw_mem.1 hl)
  refine ⟨?_, by omega⟩
  have := this.1.neg
  rwa [Int.neg_neg] at this
theorem Lo.nz {n m : Nat} {w : List Int} (h : Lo n m w) : Proofs.Ytoaiblhlpdaeoaa.nz w := fun z hz => (h z hz).1.1
theorem Lo.okl {n m : Nat} {w : List Int} (h : Lo n m w) : ∀ x ∈ w, Gar.okl n x := fun x hx => (h x hx).1
end Gar
end Go.Proofs.Ytoaiblhlpdaeoaa
/- A slice of integers that came in as an argument. -/
namespace Go.Proofs.Ytoaiblhlpdaeoaa
set_option linter.unusedVariables false
set_option linter.unusedSimpArgs false
open Go.RowKit

theorem IL.of_row {W : World} {a : Addr} {len cap : Nat} {zs : List Int} (hl : len ≤ cap) (hz : zs.length = cap) (hr : cap * 8 ≤ 140737488351232) (hcell : ∀ i, i < zs.length → W.cell? (a.add i) = some (.int .i64 (zs.getD i 0))) : IL W (some a) len (zs.take len) := by
  refine ⟨by rw [List.length_take]; omega, by omega, fun h0 => ⟨a, rfl, ?_, fun j hj => ?_⟩⟩
  · have := World.block_lt_of_cell? W _ (hcell 0 (by omega))
    rwa [block_of_add] at this
  · rw [hcell j (by omega)]
    simp [List.getD, List.getElem?_take, hj]
end Go.Proofs.Ytoaiblhlpdaeoaa
