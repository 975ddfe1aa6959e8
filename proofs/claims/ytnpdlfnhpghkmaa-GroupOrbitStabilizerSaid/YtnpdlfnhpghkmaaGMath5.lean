/- Orbits; an orbit and a stabilizer; the group of degree n and that of degree 9. -/
import Derived.Test.YtnpdlfnhpghkmaaGMath4
import Derived.Test.YtnpdlfnhpghkmaaMath3
namespace Go.Proofs.Ytnpdlfnhpghkmaa

/-- Elements of the group map x to y. -/
def Orb (n : Nat) (gl : List (List Nat)) (x y : Nat) : Prop := ∃ p, Gen n gl p ∧ p.getD x 0 = y
/-- The orbit of x, in increasing order. -/
structure IsOrb (n : Nat) (gl : List (List Nat)) (x : Nat) (os : List Nat) : Prop where
  so : Sorted os
  mem : ∀ y, y ∈ os ↔ Orb n gl x y
section
variable {n : Nat} {gl : List (List Nat)} {x y z : Nat}
theorem Orb.lt (hP : PMs n gl) (hx : x < n) (h : Orb n gl x y) : y < n := by
  obtain ⟨p, hp, rfl⟩ := h
  exact (hp.pm hP).lt hx
theorem Orb.refl (hx : x < n) : Orb n gl x x := ⟨_, .one, range_getD hx⟩
theorem Orb.trans (hP : PMs n gl) (hx : x < n) (h : Orb n gl x y) (h' : Orb n gl y z) : Orb n gl x z := by
  obtain ⟨p, hp, rfl⟩ := h
  obtain ⟨q, hq, rfl⟩ := h'
  exact ⟨comp p q, hp.comp hP hq, (hp.pm hP).getD_comp hx⟩
theorem Orb.symm (hP : PMs n gl) (hx : x < n) (h : Orb n gl x y) : Orb n gl y x := by
  obtain ⟨p, hp, rfl⟩ := h
  exact ⟨inv p, hp.inv hP, inv_getD_self (hp.pm hP).1 (by rw [(hp.pm hP).2]; exact hx)⟩
theorem Orb.gen (hP : PMs n gl) (hx : x < n) {g : List Nat} (hg : g ∈ gl) (h : Orb n gl x y) : Orb n gl x (g.getD y 0) :=
  h.trans hP hx ⟨g, Gen.of_mem hP hg, rfl⟩
theorem sorted_ext : ∀ {a b : List Nat}, Sorted a → Sorted b → (∀ y, y ∈ a ↔ y ∈ b) → a = b
  | [], [], _, _, _ => rfl
  | [], y :: b, _, _, h => by have := (h y).2 (by simp); simp at this
  | x :: a, [], _, _, h => by have := (h x).1 (by simp); simp at this
  | x :: a, y :: b, ha, hb, h => by
    obtain ⟨a1, a2⟩ := List.pairwise_cons.1 ha
    obtain ⟨b1, b2⟩ := List.pairwise_cons.1 hb
    have e : x = y := by
      rcases List.mem_cons.1 ((h x).1 (by simp)) with e | hx
      · exact e
      · rcases List.mem_cons.1 ((h y).2 (by simp)) with e | hy
        · exact e.symm
        · have := a1 y hy; have := b1 x hx; omega
    subst e
    congr 1
    refine sorted_ext a2 b2 fun z => ?_
    have hz := h z
    constructor
    · intro hm
      have := a1 z hm
      rcases List.mem_cons.1 (hz.1 (by simp [hm])) with e | e
      · omega
      · exact e
    · intro hm
      have := b1 z hm
      rcases List.mem_cons.1 (hz.2 (by simp [hm])) with e | e
      · omega
      · exact e
theorem IsOrb.unique {a b : List Nat} (ha : IsOrb n gl x a) (hb : IsOrb n gl x b) : a = b := sorted_ext ha.so hb.so fun y => by rw [ha.mem, hb.mem]
theorem IsOrb.nodup {a : List Nat} (ha : IsOrb n gl x a) : a.Nodup := List.Pairwise.imp (fun h => Nat.ne_of_lt h) ha.so

/-- What is closed under the generators and reached is the orbit. -/
theorem orb_closed (hP : PMs n gl) (hx : x < n) {o : List Nat} (h0 : x ∈ o) (hr : ∀ y ∈ o, Orb n gl x y) (hc : ∀ y ∈ o, ∀ g ∈ gl, g.getD y 0 ∈ o) (y : Nat) : y ∈ o ↔ Orb n gl x y := by
  refine ⟨hr y, ?_⟩
  rintro ⟨p, hp, rfl⟩
  refine Gen.in_closed hP (S := fun p => ∀ y ∈ o, p.getD y 0 ∈ o) (fun y hy => ?_) (fun g hg y hy => hc y hy g hg) (fun a b pa pb ha hb y hy => ?_) (fun g hg => ord_pos' (hP g hg).1) hp x h0
  · rw [range_getD ((hr y hy).lt hP hx)]; exact hy
  · rw [pa.getD_comp ((hr y hy).lt hP hx)]
    exact hb _ (ha y hy)

/-- The orbits of the first k points. -/
inductive OrbTo (n : Nat) (gl : List (List Nat)) : Nat → List (List Nat) → Prop
  | nil : OrbTo n gl 0 []
  | skip {k : Nat} {oss : List (List Nat)} : OrbTo n gl k oss → (∃ o ∈ oss, k ∈ o) → OrbTo n gl (k + 1) oss
  | add {k : Nat} {oss : List (List Nat)} {o : List Nat} : OrbTo n gl k oss → (∀ o ∈ oss, k ∉ o) → IsOrb n gl k o → OrbTo n gl (k + 1) (oss ++ [o])
theorem OrbTo.each {k : Nat} {oss : List (List Nat)} (h : OrbTo n gl k oss) : ∀ o ∈ oss, ∃ x, x < k ∧ IsOrb n gl x o := by
  induction h with
  | nil => intro o ho; simp at ho
  | skip _ _ ih => intro o ho; obtain ⟨x, hx, h⟩ := ih o ho; exact ⟨x, by omega, h⟩
  | @add k oss o' _ _ hi ih =>
    intro o ho
    rcases List.mem_append.1 ho with ho | ho
    · obtain ⟨x, hx, h⟩ := ih o ho; exact ⟨x, by omega, h⟩
    · obtain rfl : o = o' := by simpa using ho
      exact ⟨k, by omega, hi⟩
theorem OrbTo.mem {k : Nat} {oss : List (List Nat)} (h : OrbTo n gl k oss) (hk : k ≤ n) (hP : PMs n gl) (y : Nat) : y ∈ oss.flatten ↔ ∃ x, x < k ∧ Orb n gl x y := by
  induction h with
  | nil => simp
  | @skip k oss hh he ih =>
    rw [ih (by omega)]
    constructor
    · rintro ⟨x, hx, h⟩; exact ⟨x, by omega, h⟩
    · rintro ⟨x, hx, h⟩
      by_cases e : x = k
      · subst e
        obtain ⟨o, ho, hxo⟩ := he
        obtain ⟨z, hz, hi⟩ := hh.each o ho
        exact ⟨z, hz, ((hi.mem x).1 hxo).trans hP (by omega) h⟩
      · exact ⟨x, by omega, h⟩
  | @add k oss o hh hn hi ih =>
    rw [List.flatten_append, List.mem_append, ih (by omega)]
    simp only [List.flatten_cons, List.flatten_nil, List.append_nil]
    rw [hi.mem]
    constructor
    · rintro (⟨x, hx, h⟩ | h)
      · exact ⟨x, by omega, h⟩
      · exact ⟨k, by omega, h⟩
    · rintro ⟨x, hx, h⟩
      by_cases e : x = k
      · subst e; exact .inr h
      · exact .inl ⟨x, by omega, h⟩
theorem OrbTo.nodup {k : Nat} {oss : List (List Nat)} (h : OrbTo n gl k oss) (hk : k ≤ n) (hP : PMs n gl) : oss.flatten.Nodup := by
  induction h with
  | nil => simp
  | skip _ _ ih => exact ih (by omega)
  | @add k oss o hh hn hi ih =>
    rw [List.flatten_append]
    simp only [List.flatten_cons, List.flatten_nil, List.append_nil]
    rw [List.nodup_append]
    refine ⟨ih (by omega), hi.nodup, ?_⟩
    rintro a ha b hb rfl
    obtain ⟨x, hx, hxa⟩ := (hh.mem (by omega) hP a).1 ha
    have hka := (hi.mem a).1 hb
    have hxk : Orb n gl x k := hxa.trans hP (by omega) (hka.symm hP (by omega))
    have := (hh.mem (by omega) hP k).2 ⟨x, hx, hxk⟩
    obtain ⟨o', ho', hk'⟩ := List.mem_flatten.1 this
    exact hn o' ho' hk'
theorem OrbTo.total {oss : List (List Nat)} (h : OrbTo n gl n oss) (hP : PMs n gl) : oss.flatten.length = n := by
  have hp : oss.flatten.Perm (List.range n) := by
    refine (List.perm_ext_iff_of_nodup (h.nodup (Nat.le_refl _) hP) List.nodup_range).2 fun y => ?_
    rw [h.mem (Nat.le_refl _) hP, List.mem_range]
    constructor
    · rintro ⟨x, hx, hy⟩; exact hy.lt hP hx
    · intro hy; exact ⟨y, hy, Orb.refl hy⟩
  have := hp.length_eq
  simpa using this
theorem OrbTo.unique {k : Nat} {a b : List (List Nat)} (ha : OrbTo n gl k a) (hb : OrbTo n gl k b) : a = b := by
  induction ha generalizing b with
  | nil => cases hb; rfl
  | skip _ he ih =>
    cases hb with
    | skip hb' he' => exact ih hb'
    | add hb' hn' hi' =>
      obtain rfl := ih hb'
      obtain ⟨o, ho, hk⟩ := he
      exact absurd hk (hn' o ho)
  | add _ hn hi ih =>
    cases hb with
    | skip hb' he' =>
      obtain rfl := ih hb'
      obtain ⟨o, ho, hk⟩ := he'
      exact absurd hk (hn o ho)
    | add hb' hn' hi' =>
      obtain rfl := ih hb'
      rw [hi.unique hi']
end

/-! ### an orbit and a stabilizer -/
theorem count_classes {xs : List (List Nat)} (f : List Nat → Nat) (c : Nat) : ∀ (o : List Nat), o.Nodup → (∀ y ∈ o, (xs.filter fun p => decide (f p = y)).length = c) → (xs.filter fun p => decide (f p ∈ o)).length = o.length * c
  | [], _, _ => by simp
  | y :: o, hn, h => by
    obtain ⟨h1, h2⟩ := List.nodup_cons.1 hn
    have ih := count_classes f c o h2 fun z hz => h z (by simp [hz])
    have hsplit := filter_split (fun p => decide (f p = y)) (xs.filter fun p => decide (f p ∈ y :: o))
    have e1 : ((xs.filter fun p => decide (f p ∈ y :: o)).filter fun p => decide (f p = y)) = xs.filter fun p => decide (f p = y) := by
      rw [List.filter_filter]
      apply List.filter_congr
      intro p _
      by_cases e : f p = y <;> simp [e]
    have e2 : ((xs.filter fun p => decide (f p ∈ y :: o)).filter fun p => !decide (f p = y)) = xs.filter fun p => decide (f p ∈ o) := by
      rw [List.filter_filter]
      apply List.filter_congr
      intro p _
      by_cases e : f p = y
      · simp [e, h1]
      · simp [e]
    rw [e1, e2, ih, h y (by simp)] at hsplit
    rw [hsplit, List.length_cons, Nat.succ_mul, Nat.add_comm]
/-- The order is the product of the orbit's length and of the number of elements that keep the point. -/
theorem orbit_stabilizer {k : Nat} {l xs : List (List Nat)} {x : Nat} {o : List Nat} (hl : PMs k l) (hx : x < k) (he : EnumG k l xs) (ho : ∀ y, y ∈ o ↔ Orb k l x y) (hn : o.Nodup) :
    xs.length = o.length * (xs.filter fun p => decide (p.getD x 0 = x)).length := by
  have hall : (xs.filter fun p => decide (p.getD x 0 ∈ o)) = xs := by
    rw [List.filter_eq_self]
    intro p hp
    rw [decide_eq_true_iff, ho]
    exact ⟨p, (he.mem p).1 hp, rfl⟩
  have hc : ∀ y ∈ o, (xs.filter fun p => decide (p.getD x 0 = y)).length = (xs.filter fun p => decide (p.getD x 0 = x)).length := by
    intro y hy
    obtain ⟨q, hq, hqy⟩ := (ho y).1 hy
    have pq := hq.pm hl
    rw [← List.length_map (as := xs.filter fun p => decide (p.getD x 0 = x)) (fun s => comp s q)]
    refine perm_len (he.nd.filter _) ?_ fun p => ?_
    · rw [List.nodup_iff_pairwise_ne, List.pairwise_map]
      refine List.Pairwise.imp_of_mem (fun {a b} ha hb (hne : a ≠ b) e => ?_) (List.nodup_iff_pairwise_ne.1 (he.nd.filter _))
      exact hne ((((he.mem a).1 (List.mem_filter.1 ha).1).pm hl).cancel (((he.mem b).1 (List.mem_filter.1 hb).1).pm hl) pq e)
    · rw [List.mem_filter, List.mem_map, decide_eq_true_iff]
      constructor
      · rintro ⟨hp, hpy⟩
        have gp := (he.mem p).1 hp
        have pp := gp.pm hl
        refine ⟨comp p (inv q), List.mem_filter.2 ⟨(he.mem _).2 (gp.comp hl (hq.inv hl)), ?_⟩, ?_⟩
        · rw [decide_eq_true_iff, pp.getD_comp hx, hpy, ← hqy]
          exact inv_getD_self pq.1 (by rw [pq.2]; exact hx)
        · rw [pp.assoc pq.inv, pq.inv_comp, pp.one_right]
      · rintro ⟨s, hs, rfl⟩
        obtain ⟨hs1, hs2⟩ := List.mem_filter.1 hs
        have gs := (he.mem s).1 hs1
        refine ⟨(he.mem _).2 (gs.comp hl hq), ?_⟩
        rw [(gs.pm hl).getD_comp hx, of_decide_eq_true hs2]
        exact hqy
  have := count_classes (xs := xs) (fun p => p.getD x 0) _ o hn hc
  rw [hall] at this
  exact this
end Go.Proofs.Ytnpdlfnhpghkmaa
