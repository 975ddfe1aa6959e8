/- What chainOf keeps; when it ends the chain is the group. -/
import Derived.Test.YtnpdlfnhpghkmaaGMath2
namespace Go.Proofs.Ytnpdlfnhpghkmaa

/-- A chain with an element more. -/
def addL (L : Lv) (p : List Nat) : Lv := if (stripG L 9 0 p).1 = idE then L else setL L (stripG L 9 0 p).2 ((stripG L 9 0 p).1.getD (stripG L 9 0 p).2 0) (inv (stripG L 9 0 p).1)
def addE (L : Lv) (es : List (List Nat)) (p : List Nat) : List (List Nat) := if (stripG L 9 0 p).1 = idE then es else es ++ [(stripG L 9 0 p).1]

structure CInv (l : List (List Nat)) (L : Lv) (es : List (List Nat)) : Prop where
  ok : LvOK L
  gen : ∀ i u, i < 9 → Und L i u → Gen 9 l u
  ent : ∀ i u, i < 9 → Und L i u → u = idE ∨ inv u ∈ es
  eg : ∀ e ∈ es, PM 9 e ∧ Gen 9 l e
  tot : total L = 9 + es.length
theorem CInv.len {l : List (List Nat)} {L : Lv} {es : List (List Nat)} (h : CInv l L es) : es.length ≤ 36 := by
  have := total_le h.ok
  have := h.tot
  omega
theorem CInv.add {l : List (List Nat)} {L : Lv} {es : List (List Nat)} (h : CInv l L es) (hl : PMs 9 l) {p : List Nat} (hp : Gen 9 l p) :
    CInv l (addL L p) (addE L es p) ∧ Ext L (addL L p) ∧ InS (addL L p) 9 p ∧ ∃ t, addE L es p = es ++ t := by
  have pp := hp.pm hl
  unfold addL addE
  by_cases e : (stripG L 9 0 p).1 = idE
  · simp only [e, if_true]
    exact ⟨h, Ext.refl L, h.ok.strip_fst 9 0 p rfl pp (fun j hj => by omega) e, [], by simp⟩
  · simp only [e, if_false]
    obtain ⟨hlv, pr, fr, hn, hx, hok, hin⟩ := h.ok.add pp e
    have gr : Gen 9 l (stripG L 9 0 p).1 := strip_gen hl h.gen 9 0 p rfl hp
    have hu : ∀ i u, Und (setL L (stripG L 9 0 p).2 ((stripG L 9 0 p).1.getD (stripG L 9 0 p).2 0) (inv (stripG L 9 0 p).1)) i u → Und L i u ∨ u = inv (stripG L 9 0 p).1 := by
      rintro i u ⟨y, hy⟩
      unfold setL at hy
      by_cases c : i = (stripG L 9 0 p).2 ∧ y = (stripG L 9 0 p).1.getD (stripG L 9 0 p).2 0
      · rw [if_pos c] at hy
        injection hy with hy
        exact .inr hy.symm
      · rw [if_neg c] at hy
        exact .inl ⟨y, hy⟩
    refine ⟨⟨hok, fun i u hi hu' => ?_, fun i u hi hu' => ?_, fun e' he => ?_, ?_⟩, setL_ext hn, hin, _, rfl⟩
    · rcases hu i u hu' with h1 | rfl
      · exact h.gen i u hi h1
      · exact gr.inv hl
    · rcases hu i u hu' with h1 | rfl
      · rcases h.ent i u hi h1 with h2 | h2
        · exact .inl h2
        · exact .inr (List.mem_append_left _ h2)
      · refine .inr ?_
        rw [pr.inv_inv]
        simp
    · rcases List.mem_append.1 he with h1 | h1
      · exact h.eg e' h1
      · obtain rfl : e' = _ := by simpa using h1
        exact ⟨pr, gr⟩
    · rw [total_set hlv hx hn, h.tot]
      simp
      omega

/-- The chain at the beginning. -/
def L0 : Lv := fun i x => if i < 9 ∧ x = i then some idE else none
theorem L0_ok : LvOK L0 := by
  refine ⟨fun i hi => by simp [L0, hi], fun i x u hi hu => ?_⟩
  unfold L0 at hu
  by_cases e : i < 9 ∧ x = i
  · rw [if_pos e] at hu
    injection hu with hu
    subst hu
    obtain ⟨_, rfl⟩ := e
    exact ⟨idE_PM, hi, idE_getD hi, fun j hj => idE_getD (by omega)⟩
  · rw [if_neg e] at hu
    cases hu
theorem L0_und {i : Nat} {u : List Nat} (h : Und L0 i u) : u = idE := by
  obtain ⟨x, hx⟩ := h
  unfold L0 at hx
  split at hx
  · injection hx with hx
    exact hx.symm
  · cases hx
theorem cnt_L0 {i : Nat} (hi : i < 9) : cnt L0 i = 1 := by
  have h : i = 0 ∨ i = 1 ∨ i = 2 ∨ i = 3 ∨ i = 4 ∨ i = 5 ∨ i = 6 ∨ i = 7 ∨ i = 8 := by omega
  rcases h with rfl | rfl | rfl | rfl | rfl | rfl | rfl | rfl | rfl <;> rfl
theorem CInv.start (l : List (List Nat)) : CInv l L0 [] :=
  ⟨L0_ok, fun i u _ hu => by rw [L0_und hu]; exact .one, fun i u _ hu => .inl (L0_und hu), fun e he => by simp at he, by rfl⟩

/-- All products of two of the first entries. -/
structure Pairs (L : Lv) (es : List (List Nat)) (i : Nat) : Prop where
  in_ : ∀ a b, a < i → b < i → InS L 9 (comp (es.getD a []) (es.getD b []))
/-- .. and of entry i with the first j. -/
structure Row (L : Lv) (es : List (List Nat)) (i j : Nat) : Prop where
  l_ : ∀ b, b < j → InS L 9 (comp (es.getD i []) (es.getD b []))
  r_ : ∀ b, b < j → InS L 9 (comp (es.getD b []) (es.getD i []))
theorem getD_prefix {es t : List (List Nat)} {a : Nat} (h : a < es.length) : (es ++ t).getD a [] = es.getD a [] := by
  simp only [List.getD]
  rw [List.getElem?_append_left h]
theorem Pairs.ext {L L' : Lv} {es t : List (List Nat)} {i : Nat} (h : Pairs L es i) (hi : i ≤ es.length) (he : Ext L L') : Pairs L' (es ++ t) i :=
  ⟨fun a b ha hb => by rw [getD_prefix (by omega), getD_prefix (by omega)]; exact he.inS 9 _ (Nat.le_refl _) (h.in_ a b ha hb)⟩
theorem Row.ext {L L' : Lv} {es t : List (List Nat)} {i j : Nat} (h : Row L es i j) (hi : i < es.length) (hj : j ≤ es.length) (he : Ext L L') : Row L' (es ++ t) i j :=
  ⟨fun b hb => by rw [getD_prefix hi, getD_prefix (by omega)]; exact he.inS 9 _ (Nat.le_refl _) (h.l_ b hb), fun b hb => by rw [getD_prefix hi, getD_prefix (by omega)]; exact he.inS 9 _ (Nat.le_refl _) (h.r_ b hb)⟩
theorem Pairs.next {L : Lv} {es : List (List Nat)} {i : Nat} (h : Pairs L es i) (hr : Row L es i (i + 1)) : Pairs L es (i + 1) := by
  refine ⟨fun a b ha hb => ?_⟩
  by_cases e : a = i
  · subst e; exact hr.l_ b hb
  · by_cases e' : b = i
    · subst e'; exact hr.r_ a ha
    · exact h.in_ a b (by omega) (by omega)

/-- The loops' state: the gens that are in, the pairs that are done. -/
structure LoopSt (l : List (List Nat)) (L : Lv) (es : List (List Nat)) (m i : Nat) : Prop where
  ci : CInv l L es
  gens : ∀ g ∈ l.take m, InS L 9 g
  pairs : Pairs L es i
theorem LoopSt.closed {l : List (List Nat)} {L : Lv} {es : List (List Nat)} {m : Nat} (h : LoopSt l L es m es.length) : Closed L := by
  have hok := h.ci.ok
  have key : ∀ e ∈ es, ∃ a, a < es.length ∧ es.getD a [] = e := by
    intro e he
    obtain ⟨a, ha, rfl⟩ := List.mem_iff_getElem.1 he
    exact ⟨a, ha, by simp [List.getD, List.getElem?_eq_getElem ha]⟩
  have inv1 : inv idE = idE := by
    refine (inv_unique_r idE_PM idE_PM ?_).symm
    exact oneR idE_PM
  have one : ∀ k v, k < 9 → Und L k v → InS L 9 (inv v) := by
    intro k v hk hv
    have pv := hok.und hk hv
    have h1 := hok.inS_mk (n := 8 - k) (s := idE) (by omega) idE_PM (hok.strip_id (8 - k) (9 - (8 - k)) (by omega)) (by rw [show 8 - (8 - k) = k by omega]; exact hv)
    rw [oneL pv.1.inv] at h1
    have := hok.inS_up k (8 - k + 1) _ (by omega) pv.1.inv h1
    rwa [show 8 - k + 1 + k = 9 by omega] at this
  intro i k u v hi hk hu hv
  rcases h.ci.ent i u hi hu with rfl | hu'
  · rw [inv1, oneL (hok.und hk hv).1.inv]
    exact one k v hk hv
  · rcases h.ci.ent k v hk hv with rfl | hv'
    · rw [inv1, oneR (hok.und hi hu).1.inv]
      exact one i u hi hu
    · obtain ⟨a, ha, ea⟩ := key _ hu'
      obtain ⟨b, hb, eb⟩ := key _ hv'
      have := h.pairs.in_ a b ha hb
      rwa [ea, eb] at this

theorem foldl_lcm_pos : ∀ (xss : List (List Nat)) (o : Nat), 0 < o → (∀ c ∈ xss, 0 < c.length) → 0 < xss.foldl (fun o c => Nat.lcm o c.length) o
  | [], _, h, _ => h
  | c :: xss, o, h, hc => foldl_lcm_pos xss _ (Nat.lcm_pos h (hc c (by simp))) fun c' h' => hc c' (by simp [h'])
theorem ord_pos' {a : List Nat} (h : isP a) : 0 < ordL (cycs a) := by
  refine foldl_lcm_pos _ _ (by omega) fun c hc => ?_
  unfold cycs cycsTo at hc
  obtain ⟨i, hi, rfl⟩ := List.mem_map.1 hc
  have hi' := List.mem_range.1 (List.mem_filter.1 hi).1
  rw [cyc_length]
  exact (per_spec h hi').1

/-- The chain is the group. -/
theorem LoopSt.group {l : List (List Nat)} {L : Lv} {es : List (List Nat)} (h : LoopSt l L es l.length es.length) (hl : PMs 9 l) (p : List Nat) : p ∈ enumS L 9 ↔ Gen 9 l p := by
  rw [mem_enumS h.ci.ok 9 (Nat.le_refl _)]
  have hok := h.ci.ok
  constructor
  · rintro ⟨pp, hs⟩
    have : ∀ n, n ≤ 9 → ∀ p, PM 9 p → InS L n p → Gen 9 l p := by
      intro n
      induction n with
      | zero => intro _ p _ hs; rw [InS_zero.1 hs]; exact .one
      | succ n ih =>
        intro hn p pp hs
        obtain ⟨s, u, ps, hs', hu, pu, rfl⟩ := hok.inS_cases (by omega) pp hs
        exact (ih (by omega) s ps hs').comp hl ((h.ci.gen _ u (by omega) hu).inv hl)
    exact this 9 (Nat.le_refl _) p pp hs
  · intro hg
    refine ⟨hg.pm hl, ?_⟩
    refine Gen.in_closed hl (S := fun p => InS L 9 p) (hok.strip_id 9 0 rfl) (fun g hgl => h.gens g (by rw [List.take_length]; exact hgl)) (fun a b pa pb ha hb => hok.closed h.closed 9 (Nat.le_refl _) a b pa pb ha hb) (fun g hgl => ord_pos' (hl g hgl).1) hg
end Go.Proofs.Ytnpdlfnhpghkmaa
