/- Chains of transversals: what strip does, when the chain describes a group, how many elements it has. -/
import Derived.Test.YtnpdlfnhpghkmaaMath5
namespace Go.Proofs.Ytnpdlfnhpghkmaa

/-- A permutation of degree k. -/
def PM (k : Nat) (a : List Nat) : Prop := isP a ∧ a.length = k
section
variable {k : Nat} {a b c : List Nat}
theorem PM.comp (ha : PM k a) (hb : PM k b) : PM k (comp a b) := ⟨comp_isP ha.1 hb.1 (ha.2.trans hb.2.symm), by rw [comp_length]; exact ha.2⟩
theorem PM.inv (ha : PM k a) : PM k (inv a) := ⟨inv_isP ha.1, by rw [inv_length]; exact ha.2⟩
theorem PM.range (k : Nat) : PM k (List.range k) := ⟨range_isP k, by simp⟩
theorem PM.assoc (ha : PM k a) (hb : PM k b) : Go.Proofs.Ytnpdlfnhpghkmaa.comp (Go.Proofs.Ytnpdlfnhpghkmaa.comp a b) c = Go.Proofs.Ytnpdlfnhpghkmaa.comp a (Go.Proofs.Ytnpdlfnhpghkmaa.comp b c) :=
  comp_assoc fun x hx => by have := ha.1.1 x hx; have := ha.2; have := hb.2; omega
theorem PM.lt (ha : PM k a) {j : Nat} (hj : j < k) : a.getD j 0 < k := by have := ha.1.lt (j := j) (by rw [ha.2]; exact hj); rwa [ha.2] at this
theorem PM.inj (ha : PM k a) {i j : Nat} (hi : i < k) (hj : j < k) (h : a.getD i 0 = a.getD j 0) : i = j := ha.1.inj (by rw [ha.2]; exact hi) (by rw [ha.2]; exact hj) h
theorem PM.getD_comp (ha : PM k a) {j : Nat} (hj : j < k) : (Go.Proofs.Ytnpdlfnhpghkmaa.comp a b).getD j 0 = b.getD (a.getD j 0) 0 := comp_getD (by rw [ha.2]; exact hj)
theorem PM.one_right (ha : PM k a) : Go.Proofs.Ytnpdlfnhpghkmaa.comp a (List.range k) = a := comp_range fun x hx => by have := ha.1.1 x hx; have := ha.2; omega
theorem PM.one_left (ha : PM k a) : Go.Proofs.Ytnpdlfnhpghkmaa.comp (List.range k) a = a := by have := range_comp a; rwa [ha.2] at this
theorem PM.comp_inv (ha : PM k a) : Go.Proofs.Ytnpdlfnhpghkmaa.comp a (Go.Proofs.Ytnpdlfnhpghkmaa.inv a) = List.range k := by rw [Go.Proofs.Ytnpdlfnhpghkmaa.comp_inv ha.1, ha.2]
theorem PM.inv_comp (ha : PM k a) : Go.Proofs.Ytnpdlfnhpghkmaa.comp (Go.Proofs.Ytnpdlfnhpghkmaa.inv a) a = List.range k := by rw [Go.Proofs.Ytnpdlfnhpghkmaa.inv_comp ha.1, ha.2]
theorem PM.ext (ha : PM k a) (hb : PM k b) (h : ∀ j, j < k → a.getD j 0 = b.getD j 0) : a = b := list_ext_getD (ha.2.trans hb.2.symm) fun j hj => h j (by rw [← ha.2]; exact hj)
theorem PM.cancel (ha : PM k a) (hb : PM k b) (hc : PM k c) (h : Go.Proofs.Ytnpdlfnhpghkmaa.comp a c = Go.Proofs.Ytnpdlfnhpghkmaa.comp b c) : a = b :=
  ha.ext hb fun j hj => by
    have := congrArg (fun l => l.getD j 0) h
    simp only [ha.getD_comp hj, hb.getD_comp hj] at this
    exact hc.inj (ha.lt hj) (hb.lt hj) this
/-- a = b c^-1 where a c = b. -/
theorem PM.move (ha : PM k a) (hc : PM k c) (h : Go.Proofs.Ytnpdlfnhpghkmaa.comp a c = b) : a = Go.Proofs.Ytnpdlfnhpghkmaa.comp b (Go.Proofs.Ytnpdlfnhpghkmaa.inv c) := by
  rw [← h, ha.assoc hc, hc.comp_inv, ha.one_right]
theorem PM.inv_inv (ha : PM k a) : Go.Proofs.Ytnpdlfnhpghkmaa.inv (Go.Proofs.Ytnpdlfnhpghkmaa.inv a) = a := by
  refine ha.inv.inv.cancel ha ha.inv ?_
  rw [ha.inv.inv_comp, ha.comp_inv]
end

/-- The identity. -/
def idE : List Nat := List.range 9
theorem idE_PM : PM 9 idE := PM.range 9
theorem oneR {a : List Nat} (ha : PM 9 a) : comp a idE = a := ha.one_right
theorem oneL {a : List Nat} (ha : PM 9 a) : comp idE a = a := ha.one_left
theorem idE_getD {j : Nat} (h : j < 9) : idE.getD j 0 = j := range_getD h

/-- Level i, point x: the element that undoes 'i goes to x'. -/
def Lv := Nat → Nat → Option (List Nat)

/-- What strip does from level i on, n levels left. -/
def stripG (L : Lv) : Nat → Nat → List Nat → List Nat × Nat
  | 0, i, p => (p, i)
  | n + 1, i, p => match L i (p.getD i 0) with
    | none => (p, i)
    | some u => stripG L n (i + 1) (comp p u)

structure LvOK (L : Lv) : Prop where
  one : ∀ i, i < 9 → L i i = some idE
  at_ : ∀ i x u, i < 9 → L i x = some u → PM 9 u ∧ x < 9 ∧ u.getD x 0 = i ∧ ∀ j, j < i → u.getD j 0 = j

/-- p lets the points below i where they are. -/
def Fix (i : Nat) (p : List Nat) : Prop := ∀ j, j < i → p.getD j 0 = j

/-- The chain from level i on contains p. -/
def InS (L : Lv) (n : Nat) (p : List Nat) : Prop := stripG L n (9 - n) p = (idE, 9)

section
variable {L : Lv}
theorem LvOK.fix (h : LvOK L) {i x : Nat} {u p : List Nat} (hi : i < 9) (hp : PM 9 p) (hf : Fix i p) (hu : L i (p.getD i 0) = some u) : Fix (i + 1) (comp p u) := by
  obtain ⟨pu, hx, h1, h2⟩ := h.at_ i _ u hi hu
  intro j hj
  rw [hp.getD_comp (by omega)]
  by_cases e : j = i
  · subst e
    exact h1
  · rw [hf j (by omega)]
    exact h2 j (by omega)
theorem LvOK.strip_fix (h : LvOK L) : ∀ (n i : Nat) (p : List Nat), i + n = 9 → PM 9 p → Fix i p →
    PM 9 (stripG L n i p).1 ∧ Fix (stripG L n i p).2 (stripG L n i p).1 ∧ i ≤ (stripG L n i p).2 ∧ (stripG L n i p).2 ≤ 9 ∧
      ((stripG L n i p).2 < 9 → L (stripG L n i p).2 ((stripG L n i p).1.getD (stripG L n i p).2 0) = none) := by
  intro n
  induction n with
  | zero => intro i p hi hp hf; exact ⟨hp, hf, Nat.le_refl _, by simp [stripG]; omega, fun h => by simp [stripG] at h; omega⟩
  | succ n ih =>
    intro i p hi hp hf
    unfold stripG
    cases hl : L i (p.getD i 0) with
    | none => exact ⟨hp, hf, Nat.le_refl _, by simp; omega, fun _ => hl⟩
    | some u =>
      obtain ⟨pu, _⟩ := h.at_ i _ u (by omega) hl
      have := ih (i + 1) (comp p u) (by omega) (hp.comp pu) (h.fix (x := 0) (by omega) hp hf hl)
      exact ⟨this.1, this.2.1, by have := this.2.2.1; simp only; omega, this.2.2.2⟩
theorem fix_nine {p : List Nat} (hp : PM 9 p) (hf : Fix 9 p) : p = idE := hp.ext idE_PM fun j hj => by rw [hf j hj, idE_getD hj]
/-- What is left is the identity just if no level stopped it. -/
theorem LvOK.strip_end (h : LvOK L) {p : List Nat} (hp : PM 9 p) (hne : (stripG L 9 0 p).1 ≠ idE) : (stripG L 9 0 p).2 < 9 := by
  have := h.strip_fix 9 0 p rfl hp (fun j hj => by omega)
  rcases Nat.lt_or_ge (stripG L 9 0 p).2 9 with hlt | hge
  · exact hlt
  · exact absurd (fix_nine this.1 (by have h9 : (stripG L 9 0 p).2 = 9 := by omega
                                      have h2 := this.2.1
                                      rw [h9] at h2; exact h2)) hne
theorem LvOK.strip_id (h : LvOK L) : ∀ (n i : Nat), i + n = 9 → stripG L n i idE = (idE, 9)
  | 0, i, hi => by simp [stripG]; omega
  | n + 1, i, hi => by
    unfold stripG
    rw [idE_getD (by omega), h.one i (by omega)]
    simp only
    rw [oneR idE_PM]
    exact h.strip_id n (i + 1) (by omega)
/-- strip ends with the identity: so it went through all levels. -/
theorem LvOK.strip_fst (h : LvOK L) : ∀ (n i : Nat) (p : List Nat), i + n = 9 → PM 9 p → Fix i p → (stripG L n i p).1 = idE → stripG L n i p = (idE, 9) := by
  intro n
  induction n with
  | zero => intro i p hi hp hf he; simp [stripG] at he ⊢; exact ⟨he, by omega⟩
  | succ n ih =>
    intro i p hi hp hf he
    unfold stripG at he ⊢
    cases hl : L i (p.getD i 0) with
    | none =>
      rw [hl] at he
      simp only at he
      rw [he, idE_getD (by omega), h.one i (by omega)] at hl
      cases hl
    | some u =>
      rw [hl] at he
      obtain ⟨pu, _⟩ := h.at_ i _ u (by omega) hl
      exact ih (i + 1) (comp p u) (by omega) (hp.comp pu) (h.fix (x := 0) (by omega) hp hf hl) he

theorem InS_zero {p : List Nat} : InS L 0 p ↔ p = idE := by simp [InS, stripG]
theorem InS_succ {n : Nat} (hn : n < 9) {p : List Nat} : InS L (n + 1) p ↔ ∃ u, L (8 - n) (p.getD (8 - n) 0) = some u ∧ InS L n (comp p u) := by
  unfold InS
  rw [show 9 - (n + 1) = 8 - n by omega, stripG]
  cases hl : L (8 - n) (p.getD (8 - n) 0) with
  | none =>
    simp
    intro _
    omega
  | some u =>
    simp
    rw [show 8 - n + 1 = 9 - n by omega]

/-- An element of the chain from a level on lets the points below it where they are. -/
theorem LvOK.inS_fix (h : LvOK L) : ∀ (n : Nat) (p : List Nat), n ≤ 9 → PM 9 p → InS L n p → Fix (9 - n) p := by
  intro n
  induction n with
  | zero => intro p _ hp hs j hj; rw [InS_zero.1 hs]; exact idE_getD (by omega)
  | succ n ih =>
    intro p hn hp hs
    obtain ⟨u, hu, hs'⟩ := (InS_succ (by omega)).1 hs
    obtain ⟨pu, hx, h1, h2⟩ := h.at_ _ _ u (by omega) hu
    have hf := ih (comp p u) (by omega) (hp.comp pu) hs'
    intro j hj
    have hj1 := hf j (by omega)
    rw [hp.getD_comp (by omega)] at hj1
    have hj2 := h2 j (by omega)
    exact pu.inj (hp.lt (by omega)) (by omega) (hj1.trans hj2.symm)
/-- What lets the points below a level where they are, and is in the whole chain, is in the chain from this level on. -/
theorem LvOK.inS_down (h : LvOK L) (m : Nat) : ∀ (n : Nat) (p : List Nat), n + m ≤ 9 → PM 9 p → Fix (9 - n) p → InS L (n + m) p → InS L n p := by
  induction m with
  | zero => intro n p _ _ _ hs; exact hs
  | succ m ih =>
    intro n p hn hp hf hs
    obtain ⟨u, hu, hs'⟩ := (InS_succ (n := n + m) (by omega)).1 hs
    rw [hf _ (by omega), h.one _ (by omega)] at hu
    injection hu with hu
    subst hu
    rw [oneR hp] at hs'
    exact ih n p (by omega) hp hf hs'

/-- The undoing elements of level i. -/
def Und (L : Lv) (i : Nat) (u : List Nat) : Prop := ∃ x, L i x = some u

theorem LvOK.und (h : LvOK L) {i : Nat} {u : List Nat} (hi : i < 9) (hu : Und L i u) : PM 9 u ∧ Fix i u := by
  obtain ⟨x, hx⟩ := hu
  obtain ⟨pu, _, _, h2⟩ := h.at_ i x u hi hx
  exact ⟨pu, h2⟩
theorem fix_inv {i : Nat} {u : List Nat} (hi : i ≤ 9) (pu : PM 9 u) (hf : Fix i u) : Fix i (inv u) := fun j hj => by
  have := inv_getD_self pu.1 (j := j) (by rw [pu.2]; omega)
  rw [hf j hj] at this
  exact this
theorem fix_comp {i : Nat} {a b : List Nat} (hi : i ≤ 9) (pa : PM 9 a) (ha : Fix i a) (hb : Fix i b) : Fix i (comp a b) := fun j hj => by
  rw [pa.getD_comp (by omega), ha j hj, hb j hj]
theorem Fix.mono {i j : Nat} {a : List Nat} (h : Fix j a) (hij : i ≤ j) : Fix i a := fun x hx => h x (by omega)

/-- s t^-1, s from the next level on: in the chain. -/
theorem LvOK.inS_mk (h : LvOK L) {n : Nat} {s u : List Nat} (hn : n < 9) (ps : PM 9 s) (hs : InS L n s) (hu : Und L (8 - n) u) : InS L (n + 1) (comp s (inv u)) := by
  obtain ⟨x, hx⟩ := hu
  obtain ⟨pu, hx9, h1, h2⟩ := h.at_ _ x u (by omega) hx
  have hf := h.inS_fix n s (by omega) ps hs (8 - n) (by omega)
  refine (InS_succ hn).2 ⟨u, ?_, ?_⟩
  · rw [ps.getD_comp (by omega), hf]
    have := inv_getD_self pu.1 (j := x) (by rw [pu.2]; exact hx9)
    rw [h1] at this
    rw [this]
    exact hx
  · rw [ps.assoc pu.inv, pu.inv_comp, ps.one_right]
    exact hs
theorem LvOK.inS_cases (h : LvOK L) {n : Nat} {p : List Nat} (hn : n < 9) (pp : PM 9 p) (hs : InS L (n + 1) p) : ∃ s u, PM 9 s ∧ InS L n s ∧ Und L (8 - n) u ∧ PM 9 u ∧ p = comp s (inv u) := by
  obtain ⟨u, hu, hs'⟩ := (InS_succ hn).1 hs
  obtain ⟨pu, _⟩ := h.at_ _ _ u (by omega) hu
  exact ⟨comp p u, u, pp.comp pu, hs', ⟨_, hu⟩, pu, pp.move pu rfl⟩

/-- All products of two entries are in the chain. -/
def Closed (L : Lv) : Prop := ∀ i k u v, i < 9 → k < 9 → Und L i u → Und L k v → InS L 9 (comp (inv u) (inv v))

theorem LvOK.push (h : LvOK L) (hc : Closed L) {n : Nat} (hn : n < 9) (ihc : ∀ a b, PM 9 a → PM 9 b → InS L n a → InS L n b → InS L n (comp a b)) :
    ∀ (m : Nat) (s u : List Nat), m ≤ n → PM 9 s → InS L m s → Und L (8 - n) u → ∃ s' u', PM 9 s' ∧ InS L n s' ∧ Und L (8 - n) u' ∧ PM 9 u' ∧ comp (inv u) s = comp s' (inv u') := by
  intro m
  induction m with
  | zero =>
    intro s u _ ps hs hu
    obtain rfl := InS_zero.1 hs
    obtain ⟨pu, _⟩ := h.und (by omega) hu
    refine ⟨idE, u, idE_PM, ?_, hu, pu, ?_⟩
    · exact h.strip_id n (9 - n) (by omega)
    · rw [oneR pu.inv, oneL pu.inv]
  | succ m ih =>
    intro s u hm ps hs hu
    obtain ⟨pu, fu⟩ := h.und (by omega) hu
    obtain ⟨s1, r, ps1, hs1, hr, pr, rfl⟩ := h.inS_cases (by omega) ps hs
    obtain ⟨s2, u2, ps2, hs2, hu2, pu2, e2⟩ := ih s1 u (by omega) ps1 hs1 hu
    -- u^-1 s1 r^-1 = s2 (u2^-1 r^-1)
    have hcl := hc (8 - n) (8 - m) u2 r (by omega) (by omega) hu2 hr
    have pc : PM 9 (comp (inv u2) (inv r)) := pu2.inv.comp pr.inv
    have fr := (h.und (i := 8 - m) (by omega) hr).2
    have fu2 := (h.und (i := 8 - n) (by omega) hu2).2
    have hin : InS L (n + 1) (comp (inv u2) (inv r)) :=
      h.inS_down (9 - (n + 1)) (n + 1) _ (by omega) pc (fix_comp (by omega) pu2.inv ((fix_inv (by omega) pu2 fu2).mono (by omega)) ((fix_inv (by omega) pr fr).mono (by omega))) (by rw [show n + 1 + (9 - (n + 1)) = 9 by omega]; exact hcl)
    obtain ⟨s3, u3, ps3, hs3, hu3, pu3, e3⟩ := h.inS_cases hn pc hin
    refine ⟨comp s2 s3, u3, ps2.comp ps3, ihc _ _ ps2 ps3 hs2 hs3, hu3, pu3, ?_⟩
    rw [← pu.inv.assoc ps1, e2, ps2.assoc pu2.inv, e3, ← ps2.assoc ps3]

theorem LvOK.closed (h : LvOK L) (hc : Closed L) : ∀ (n : Nat), n ≤ 9 → ∀ a b, PM 9 a → PM 9 b → InS L n a → InS L n b → InS L n (comp a b) := by
  intro n
  induction n with
  | zero =>
    intro _ a b _ _ ha hb
    rw [InS_zero.1 ha, InS_zero.1 hb, oneR idE_PM]
    exact InS_zero.2 rfl
  | succ n ih =>
    intro hn a b pa pb ha hb
    have ihc := ih (by omega)
    obtain ⟨s1, u1, ps1, hs1, hu1, pu1, rfl⟩ := h.inS_cases (by omega) pa ha
    obtain ⟨s2, u2, ps2, hs2, hu2, pu2, rfl⟩ := h.inS_cases (by omega) pb hb
    obtain ⟨s3, u3, ps3, hs3, hu3, pu3, e3⟩ := h.push hc (by omega) ihc n s2 u1 (Nat.le_refl _) ps2 hs2 hu1
    -- u3^-1 u2^-1
    have hcl := hc (8 - n) (8 - n) u3 u2 (by omega) (by omega) hu3 hu2
    have pc : PM 9 (comp (inv u3) (inv u2)) := pu3.inv.comp pu2.inv
    have f3 := (h.und (i := 8 - n) (by omega) hu3).2
    have f2 := (h.und (i := 8 - n) (by omega) hu2).2
    have hin : InS L (n + 1) (comp (inv u3) (inv u2)) :=
      h.inS_down (9 - (n + 1)) (n + 1) _ (by omega) pc (fix_comp (by omega) pu3.inv ((fix_inv (by omega) pu3 f3).mono (by omega)) ((fix_inv (by omega) pu2 f2).mono (by omega))) (by rw [show n + 1 + (9 - (n + 1)) = 9 by omega]; exact hcl)
    obtain ⟨s4, u4, ps4, hs4, hu4, pu4, e4⟩ := h.inS_cases (by omega) pc hin
    have e : comp (comp s1 (inv u1)) (comp s2 (inv u2)) = comp (comp (comp s1 s3) s4) (inv u4) := by
      rw [ps1.assoc pu1.inv, ← pu1.inv.assoc ps2, e3, ps3.assoc pu3.inv, e4, ← ps3.assoc ps4, ← ps1.assoc (ps3.comp ps4), ← ps1.assoc ps3]
    rw [e]
    exact h.inS_mk (by omega) ((ps1.comp ps3).comp ps4) (ihc _ _ (ps1.comp ps3) ps4 (ihc _ _ ps1 ps3 hs1 hs3) hs4) hu4
end
end Go.Proofs.Ytnpdlfnhpghkmaa
