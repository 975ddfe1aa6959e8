/- Plain mathematics: cycles of a permutation. -/
import Derived.Test.YtnpdlfnhpghkmaaMath3
namespace Go.Proofs.Ytnpdlfnhpghkmaa
set_option linter.unusedVariables false
set_option linter.unusedSimpArgs false

/-- a applied t times to s. -/
def it (a : List Nat) : Nat → Nat → Nat
  | 0, s => s
  | t + 1, s => a.getD (it a t s) 0
theorem it_lt {a : List Nat} (h : isP a) {s : Nat} (hs : s < a.length) : ∀ t, it a t s < a.length
  | 0 => hs
  | t + 1 => h.lt (it_lt h hs t)
theorem it_inj {a : List Nat} (h : isP a) {s r : Nat} (hs : s < a.length) (hr : r < a.length) : ∀ t, it a t s = it a t r → s = r
  | 0, e => e
  | t + 1, e => it_inj h hs hr t (h.inj (it_lt h hs t) (it_lt h hr t) e)
theorem it_add (a : List Nat) (s : Nat) : ∀ t u, it a (t + u) s = it a t (it a u s)
  | 0, u => by rw [Nat.zero_add]; rfl
  | t + 1, u => by rw [show t + 1 + u = (t + u) + 1 from by omega, it, it_add a s t u, it]
theorem it_back {a : List Nat} (h : isP a) {s : Nat} (hs : s < a.length) {t u : Nat} (e : it a (t + u) s = it a t s) : it a u s = s := by
  rw [it_add] at e
  exact it_inj h (it_lt h hs u) hs t e

/-- The first number from p on, among f, that has P. -/
def srch (P : Nat → Bool) : Nat → Nat → Nat
  | 0, p => p
  | f + 1, p => if P p then p else srch P f (p + 1)
theorem srch_spec (P : Nat → Bool) : ∀ (f p : Nat), (∃ q, p ≤ q ∧ q < p + f ∧ P q = true) → p ≤ srch P f p ∧ srch P f p < p + f ∧ P (srch P f p) = true ∧ ∀ t, p ≤ t → t < srch P f p → P t = false
  | 0, p, ⟨q, h1, h2, _⟩ => by omega
  | f + 1, p, ⟨q, h1, h2, h3⟩ => by
    rw [srch]
    by_cases hp : P p = true
    · rw [if_pos hp]
      exact ⟨by omega, by omega, hp, fun t _ _ => by omega⟩
    · rw [if_neg hp]
      have hq : q ≠ p := fun e => hp (e ▸ h3)
      obtain ⟨a, b, c, d⟩ := srch_spec P f (p + 1) ⟨q, by omega, by omega, h3⟩
      refine ⟨by omega, by omega, c, fun t h4 h5 => ?_⟩
      by_cases e : t = p
      · subst e; simpa using hp
      · exact d t (by omega) h5

/-- The length of the cycle of s. -/
def perOf (a : List Nat) (s : Nat) : Nat := srch (fun p => it a p s == s) a.length 1
theorem per_ex {a : List Nat} (h : isP a) {s : Nat} (hs : s < a.length) : ∃ q, 1 ≤ q ∧ q < 1 + a.length ∧ it a q s = s := by
  apply Classical.byContradiction
  intro hn
  have hnd : ((List.range (a.length + 1)).map fun t => it a t s).Nodup := by
    rw [List.nodup_iff_pairwise_ne, List.pairwise_map]
    refine List.Pairwise.imp_of_mem ?_ (List.pairwise_lt_range (n := a.length + 1))
    intro i j hi hj hij e
    simp at hi hj
    refine hn ⟨j - i, by omega, by omega, it_back h hs (t := i) ?_⟩
    rw [show i + (j - i) = j from by omega]
    exact e.symm
  have := nodup_length_le a.length _ hnd (fun x hx => by
    obtain ⟨t, _, rfl⟩ := List.mem_map.1 hx
    exact it_lt h hs t)
  simp at this
  omega
theorem per_spec {a : List Nat} (h : isP a) {s : Nat} (hs : s < a.length) : 1 ≤ perOf a s ∧ perOf a s ≤ a.length ∧ it a (perOf a s) s = s ∧ ∀ t, 1 ≤ t → t < perOf a s → it a t s ≠ s := by
  obtain ⟨q, h1, h2, h3⟩ := per_ex h hs
  obtain ⟨x, y, z, u⟩ := srch_spec (fun p => it a p s == s) a.length 1 ⟨q, h1, h2, by simpa using h3⟩
  refine ⟨x, by unfold perOf; omega, by unfold perOf; simpa using z, fun t ht1 ht2 => ?_⟩
  have := u t ht1 ht2
  simpa using this

/-- The cycle of s. -/
def cyc (a : List Nat) (s : Nat) : List Nat := (List.range (perOf a s)).map fun t => it a t s
theorem cyc_length (a : List Nat) (s : Nat) : (cyc a s).length = perOf a s := by simp [cyc]
theorem it_mul {a : List Nat} {s p : Nat} (hp : it a p s = s) : ∀ k, it a (k * p) s = s
  | 0 => by rw [Nat.zero_mul]; rfl
  | k + 1 => by rw [Nat.add_mul, Nat.one_mul, it_add, hp, it_mul hp k]
theorem it_mod {a : List Nat} {s p : Nat} (hp : it a p s = s) (t : Nat) : it a (t % p) s = it a t s := by
  conv => rhs; rw [← Nat.mod_add_div t p, it_add, Nat.mul_comm, it_mul hp]
theorem mem_cyc {a : List Nat} (h : isP a) {s x : Nat} (hs : s < a.length) : x ∈ cyc a s ↔ ∃ t, x = it a t s := by
  obtain ⟨h1, _, h3, _⟩ := per_spec h hs
  constructor
  · intro hx
    obtain ⟨t, _, rfl⟩ := List.mem_map.1 hx
    exact ⟨t, rfl⟩
  · rintro ⟨t, rfl⟩
    rw [← it_mod h3]
    exact List.mem_map.2 ⟨t % perOf a s, by simpa using Nat.mod_lt t (by omega), rfl⟩
theorem cyc_lt {a : List Nat} (h : isP a) {s x : Nat} (hs : s < a.length) (hx : x ∈ cyc a s) : x < a.length := by
  obtain ⟨t, rfl⟩ := (mem_cyc h hs).1 hx
  exact it_lt h hs t
theorem cyc_symm {a : List Nat} (h : isP a) {s x : Nat} (hs : s < a.length) (hx : x ∈ cyc a s) : s ∈ cyc a x := by
  have hxl := cyc_lt h hs hx
  obtain ⟨t, ht, rfl⟩ := List.mem_map.1 hx
  simp at ht
  refine (mem_cyc h hxl).2 ⟨perOf a s - t, ?_⟩
  rw [← it_add, show perOf a s - t + t = perOf a s from by omega]
  exact (per_spec h hs).2.2.1.symm
theorem cyc_trans {a : List Nat} (h : isP a) {s x y : Nat} (hs : s < a.length) (hx : x ∈ cyc a s) (hy : y ∈ cyc a x) : y ∈ cyc a s := by
  have hxl := cyc_lt h hs hx
  obtain ⟨t, rfl⟩ := (mem_cyc h hs).1 hx
  obtain ⟨u, rfl⟩ := (mem_cyc h hxl).1 hy
  exact (mem_cyc h hs).2 ⟨u + t, (it_add a s u t).symm⟩
theorem cyc_self {a : List Nat} (h : isP a) {s : Nat} (hs : s < a.length) : s ∈ cyc a s := (mem_cyc h hs).2 ⟨0, rfl⟩

/-- Whether i is the smallest of its cycle. -/
def isMin (a : List Nat) (i : Nat) : Bool := decide (∀ x ∈ cyc a i, i ≤ x)
/-- The cycles that begin below k, of at least two elements. -/
def cycsTo (a : List Nat) (k : Nat) : List (List Nat) := ((List.range k).filter fun i => isMin a i && decide (1 < perOf a i)).map (cyc a)
def cycs (a : List Nat) : List (List Nat) := cycsTo a a.length
theorem cycsTo_succ (a : List Nat) (k : Nat) : cycsTo a (k + 1) = cycsTo a k ++ if (isMin a k && decide (1 < perOf a k)) = true then [cyc a k] else [] := by
  unfold cycsTo
  rw [List.range_succ, List.filter_append, List.map_append]
  by_cases h : (isMin a k && decide (1 < perOf a k)) = true
  · rw [if_pos h]; simp only [List.filter_cons, List.filter_nil, h, if_true]; rfl
  · rw [if_neg h]; simp only [List.filter_cons, List.filter_nil, h, if_false]; rfl
/-- What has been seen: all in cycles of elements below k. -/
def SeenTo (a : List Nat) (k : Nat) (M : List Int) : Prop := ∀ x : Nat, (x : Int) ∈ M ↔ ∃ s, s < k ∧ x ∈ cyc a s
theorem seen_min {a : List Nat} (h : isP a) {k : Nat} (hk : k < a.length) {M : List Int} (hM : SeenTo a k M) : ((k : Int) ∈ M) ↔ isMin a k = false := by
  rw [hM k]
  constructor
  · rintro ⟨s, hs, hks⟩
    unfold isMin
    rw [decide_eq_false_iff_not]
    intro hall
    have := hall s (cyc_symm h (by omega) hks)
    omega
  · intro hm
    unfold isMin at hm
    rw [decide_eq_false_iff_not] at hm
    apply Classical.byContradiction
    intro hn
    refine hm fun x hx => ?_
    apply Classical.byContradiction
    intro hlt
    exact hn ⟨x, by omega, cyc_symm h hk hx⟩
theorem seen_skip {a : List Nat} (h : isP a) {k : Nat} (hk : k < a.length) {M : List Int} (hM : SeenTo a k M) (hs : (k : Int) ∈ M) : SeenTo a (k + 1) M := by
  intro x
  rw [hM x]
  constructor
  · rintro ⟨s, h1, h2⟩
    exact ⟨s, by omega, h2⟩
  · rintro ⟨s, h1, h2⟩
    by_cases e : s = k
    · subst e
      obtain ⟨r, hr, hkr⟩ := (hM s).1 hs
      exact ⟨r, hr, cyc_trans h (by omega) hkr h2⟩
    · exact ⟨s, by omega, h2⟩
theorem seen_add {a : List Nat} {k : Nat} {M : List Int} (hM : SeenTo a k M) : SeenTo a (k + 1) (M ++ zs (cyc a k)) := by
  intro x
  rw [List.mem_append, hM x]
  have e : (x : Int) ∈ zs (cyc a k) ↔ x ∈ cyc a k := by
    unfold zs
    rw [List.mem_map]
    constructor
    · rintro ⟨y, hy, e⟩
      have : y = x := Int.ofNat.inj e
      rw [← this]; exact hy
    · intro hx
      exact ⟨x, hx, rfl⟩
  rw [e]
  constructor
  · rintro (⟨s, h1, h2⟩ | h2)
    · exact ⟨s, by omega, h2⟩
    · exact ⟨k, by omega, h2⟩
  · rintro ⟨s, h1, h2⟩
    by_cases e : s = k
    · subst e; exact .inr h2
    · exact .inl ⟨s, by omega, h2⟩
end Go.Proofs.Ytnpdlfnhpghkmaa
