/- The group that permutations generate; adding to a chain; how many elements a chain has. -/
import Derived.Test.YtnpdlfnhpghkmaaGMath
namespace Go.Proofs.Ytnpdlfnhpghkmaa

/-- The group that l generates, of degree k. -/
inductive Gen (k : Nat) (l : List (List Nat)) : List Nat → Prop
  | one : Gen k l (List.range k)
  | mul {a g : List Nat} : Gen k l a → g ∈ l → Gen k l (comp a g)
  | div {a g : List Nat} : Gen k l a → g ∈ l → Gen k l (comp a (inv g))
/-- Permutations of degree k. -/
def PMs (k : Nat) (l : List (List Nat)) : Prop := ∀ g ∈ l, PM k g
section
variable {k : Nat} {l : List (List Nat)} {a b : List Nat}
theorem Gen.pm (hl : PMs k l) (h : Gen k l a) : PM k a := by
  induction h with
  | one => exact PM.range k
  | mul _ hg ih => exact ih.comp (hl _ hg)
  | div _ hg ih => exact ih.comp (hl _ hg).inv
theorem Gen.comp (hl : PMs k l) (ha : Gen k l a) (hb : Gen k l b) : Gen k l (comp a b) := by
  have pa := ha.pm hl
  induction hb with
  | one => rw [pa.one_right]; exact ha
  | mul h hg ih => rw [← pa.assoc (h.pm hl)]; exact .mul ih hg
  | div h hg ih => rw [← pa.assoc (h.pm hl)]; exact .div ih hg
theorem Gen.of_mem (hl : PMs k l) (hg : a ∈ l) : Gen k l a := by
  have := Gen.mul (k := k) (l := l) .one hg
  rwa [(hl _ hg).one_left] at this
theorem Gen.of_inv (hl : PMs k l) (hg : a ∈ l) : Gen k l (Go.Proofs.Ytnpdlfnhpghkmaa.inv a) := by
  have := Gen.div (k := k) (l := l) .one hg
  rwa [(hl _ hg).inv.one_left] at this
theorem inv_unique_r (pa : PM k a) (pb : PM k b) (h : Go.Proofs.Ytnpdlfnhpghkmaa.comp b a = List.range k) : b = Go.Proofs.Ytnpdlfnhpghkmaa.inv a := by
  refine pb.cancel pa.inv pa ?_
  rw [h, pa.inv_comp]
theorem inv_mul (pa : PM k a) (pb : PM k b) : Go.Proofs.Ytnpdlfnhpghkmaa.inv (Go.Proofs.Ytnpdlfnhpghkmaa.comp a b) = Go.Proofs.Ytnpdlfnhpghkmaa.comp (Go.Proofs.Ytnpdlfnhpghkmaa.inv b) (Go.Proofs.Ytnpdlfnhpghkmaa.inv a) := by
  refine (inv_unique_r (pa.comp pb) (pb.inv.comp pa.inv) ?_).symm
  rw [pb.inv.assoc pa.inv, ← pa.inv.assoc pa, pa.inv_comp, pb.one_left, pb.inv_comp]
theorem Gen.inv (hl : PMs k l) (ha : Gen k l a) : Gen k l (Go.Proofs.Ytnpdlfnhpghkmaa.inv a) := by
  induction ha with
  | one =>
    have : Go.Proofs.Ytnpdlfnhpghkmaa.inv (List.range k) = List.range k := by
      refine (inv_unique_r (PM.range k) (PM.range k) ?_).symm
      exact (PM.range k).one_right
    rw [this]
    exact .one
  | mul h hg ih => rw [inv_mul (h.pm hl) (hl _ hg)]; exact (Gen.of_inv hl hg).comp hl ih
  | div h hg ih => rw [inv_mul (h.pm hl) (hl _ hg).inv, (hl _ hg).inv_inv]; exact (Gen.of_mem hl hg).comp hl ih
theorem Gen.sub {l' : List (List Nat)} (h : ∀ g ∈ l, g ∈ l') (ha : Gen k l a) : Gen k l' a := by
  induction ha with
  | one => exact .one
  | mul _ hg ih => exact .mul ih (h _ hg)
  | div _ hg ih => exact .div ih (h _ hg)
/-- What is closed under products, and holds 1 and the generators, holds the group: inverses are powers. -/
theorem Gen.in_closed (hl : PMs k l) {S : List Nat → Prop} (h1 : S (List.range k)) (hg : ∀ g ∈ l, S g) (hc : ∀ a b, PM k a → PM k b → S a → S b → S (Go.Proofs.Ytnpdlfnhpghkmaa.comp a b)) (ho : ∀ g ∈ l, 0 < ordL (cycs g)) (ha : Gen k l a) : S a := by
  have hp : ∀ g ∈ l, ∀ m, S (powN g m) := by
    intro g hgl m
    have pg := hl g hgl
    induction m with
    | zero => rw [powN_zero, pg.2]; exact h1
    | succ m ih => rw [← powN_succ]; exact hc _ _ ⟨powN_isP pg.1 m, by rw [powN_length, pg.2]⟩ pg ih (hg g hgl)
  induction ha with
  | one => exact h1
  | mul h hgl ih => exact hc _ _ (h.pm hl) (hl _ hgl) ih (hg _ hgl)
  | @div a g h hgl ih =>
    have pg := hl g hgl
    refine hc _ _ (h.pm hl) pg.inv ih ?_
    have e : Go.Proofs.Ytnpdlfnhpghkmaa.inv g = powZ g (-((1 : Nat) : Int)) := by
      rw [← powZ_neg pg.1 (ho g hgl) 1, powN_one]
    rw [e]
    exact hp g hgl _
end

section
variable {L L' : Lv}
/-- More entries. -/
def Ext (L L' : Lv) : Prop := ∀ i x u, L i x = some u → L' i x = some u
theorem Ext.refl (L : Lv) : Ext L L := fun _ _ _ h => h
theorem Ext.trans {L2 : Lv} (h : Ext L L') (h' : Ext L' L2) : Ext L L2 := fun i x u hu => h' i x u (h i x u hu)
theorem Ext.inS (h : Ext L L') : ∀ (n : Nat) (p : List Nat), n ≤ 9 → InS L n p → InS L' n p := by
  intro n
  induction n with
  | zero => intro p _ hs; exact InS_zero.2 (InS_zero.1 hs)
  | succ n ih =>
    intro p hn hs
    obtain ⟨u, hu, hs'⟩ := (InS_succ (by omega)).1 hs
    exact (InS_succ (by omega)).2 ⟨u, h _ _ _ hu, ih _ (by omega) hs'⟩
theorem LvOK.inS_up (h : LvOK L) (m : Nat) : ∀ (n : Nat) (p : List Nat), n + m ≤ 9 → PM 9 p → InS L n p → InS L (n + m) p := by
  induction m with
  | zero => intro n p _ _ hs; exact hs
  | succ m ih =>
    intro n p hn hp hs
    have hf := h.inS_fix n p (by omega) hp hs
    have h2 := ih n p (by omega) hp hs
    refine (InS_succ (n := n + m) (by omega)).2 ⟨idE, ?_, by rw [oneR hp]; exact h2⟩
    rw [hf _ (by omega)]
    exact h.one _ (by omega)

/-- L with u at point x of level lv. -/
def setL (L : Lv) (lv x : Nat) (u : List Nat) : Lv := fun i y => if i = lv ∧ y = x then some u else L i y
theorem setL_ext {lv x : Nat} {u : List Nat} (hn : L lv x = none) : Ext L (setL L lv x u) := fun i y v hv => by
  unfold setL
  rw [if_neg]
  · exact hv
  · rintro ⟨rfl, rfl⟩
    rw [hn] at hv
    cases hv
theorem stripG_ext (h : Ext L L') : ∀ (n i : Nat) (p : List Nat), ∃ m, m ≤ n ∧ (stripG L n i p).2 = i + m ∧ stripG L' n i p = stripG L' (n - m) (i + m) (stripG L n i p).1 := by
  intro n
  induction n with
  | zero => intro i p; exact ⟨0, Nat.le_refl _, rfl, rfl⟩
  | succ n ih =>
    intro i p
    cases hl : L i (p.getD i 0) with
    | none =>
      have e : stripG L (n + 1) i p = (p, i) := by unfold stripG; rw [hl]
      rw [e]
      exact ⟨0, by omega, rfl, rfl⟩
    | some u =>
      obtain ⟨m, hm, h2, h3⟩ := ih (i + 1) (comp p u)
      have h4 := h _ _ _ hl
      refine ⟨m + 1, by omega, by simp only [stripG, hl]; omega, ?_⟩
      simp only [stripG, hl, h4]
      rw [h3, show n + 1 - (m + 1) = n - m by omega, show i + (m + 1) = i + 1 + m by omega]

/-- What is left of p, and where: the new entry. -/
theorem LvOK.add (h : LvOK L) {p : List Nat} (hp : PM 9 p) (hne : (stripG L 9 0 p).1 ≠ idE) :
    let r := (stripG L 9 0 p).1
    let lv := (stripG L 9 0 p).2
    let x := r.getD lv 0
    lv < 9 ∧ PM 9 r ∧ Fix lv r ∧ L lv x = none ∧ x < 9 ∧ LvOK (setL L lv x (inv r)) ∧ InS (setL L lv x (inv r)) 9 p := by
  intro r lv x
  have h0 := h.strip_fix 9 0 p rfl hp (fun j hj => by omega)
  have hlv : lv < 9 := h.strip_end hp hne
  have pr : PM 9 r := h0.1
  have fr : Fix lv r := h0.2.1
  have hn : L lv x = none := h0.2.2.2.2 hlv
  have hx : x < 9 := pr.lt hlv
  have hxl : x ≠ lv := fun e => by
    have := h.one lv hlv
    rw [e] at hn
    rw [hn] at this
    cases this
  have hok : LvOK (setL L lv x (inv r)) := by
    refine ⟨fun i hi => ?_, fun i y u hi hu => ?_⟩
    · unfold setL
      rw [if_neg]
      · exact h.one i hi
      · rintro ⟨rfl, h2⟩
        exact hxl h2.symm
    · unfold setL at hu
      by_cases e : i = lv ∧ y = x
      · rw [if_pos e] at hu
        injection hu with hu
        subst hu
        obtain ⟨rfl, rfl⟩ := e
        exact ⟨pr.inv, hx, inv_getD_self pr.1 (by rw [pr.2]; exact hlv), fix_inv (by omega) pr fr⟩
      · rw [if_neg e] at hu
        exact h.at_ i y u hi hu
  refine ⟨hlv, pr, fr, hn, hx, hok, ?_⟩
  obtain ⟨m, hm, h2, h3⟩ := stripG_ext (setL_ext (u := inv r) hn) 9 0 p
  have hml : lv = m := by have : lv = 0 + m := h2; omega
  unfold InS
  rw [show 9 - 9 = 0 by omega, h3, show 0 + m = lv by omega, show 9 - m = (8 - lv) + 1 by omega, stripG]
  have hat : setL L lv x (inv r) lv (r.getD lv 0) = some (inv r) := by unfold setL; rw [if_pos ⟨rfl, rfl⟩]
  rw [show (stripG L 9 0 p).1 = r from rfl, hat]
  simp only
  rw [pr.comp_inv]
  exact hok.strip_id (8 - lv) (lv + 1) (by omega)

theorem strip_gen {l : List (List Nat)} (hl : PMs 9 l) (hg : ∀ i u, i < 9 → Und L i u → Gen 9 l u) : ∀ (n i : Nat) (p : List Nat), i + n = 9 → Gen 9 l p → Gen 9 l (stripG L n i p).1 := by
  intro n
  induction n with
  | zero => intro i p _ h; exact h
  | succ n ih =>
    intro i p hi h
    unfold stripG
    cases hu : L i (p.getD i 0) with
    | none => exact h
    | some u => exact ih (i + 1) (comp p u) (by omega) (h.comp hl (hg i u (by omega) ⟨_, hu⟩))
end

/-! ### how many -/
/-- The undoing elements of a level, as a list. -/
def tr (L : Lv) (i : Nat) : List (List Nat) := (List.range 9).filterMap (L i)
def cnt (L : Lv) (i : Nat) : Nat := (tr L i).length
theorem mem_tr {L : Lv} (h : LvOK L) {i : Nat} (hi : i < 9) {u : List Nat} : u ∈ tr L i ↔ Und L i u := by
  unfold tr Und
  rw [List.mem_filterMap]
  constructor
  · rintro ⟨x, _, hx⟩; exact ⟨x, hx⟩
  · rintro ⟨x, hx⟩; exact ⟨x, by simpa using (h.at_ i x u hi hx).2.1, hx⟩
theorem cnt_le (L : Lv) (i : Nat) : cnt L i ≤ 9 := by
  have := List.length_filterMap_le (L i) (List.range 9)
  simpa [cnt, tr] using this
theorem cnt_low {L : Lv} (h : LvOK L) {i : Nat} (hi : i < 9) : cnt L i ≤ 9 - i := by
  have e : tr L i = ((List.range 9).drop i).filterMap (L i) := by
    have hs : List.range 9 = (List.range 9).take i ++ (List.range 9).drop i := (List.take_append_drop i _).symm
    unfold tr
    conv => lhs; rw [hs]
    rw [List.filterMap_append]
    have : ((List.range 9).take i).filterMap (L i) = [] := by
      rw [List.filterMap_eq_nil_iff]
      intro x hx
      rw [List.take_range] at hx
      have hxi : x < i := by have := List.mem_range.1 hx; omega
      cases hu : L i x with
      | none => rfl
      | some u =>
        obtain ⟨_, _, h1, h2⟩ := h.at_ i x u hi hu
        have := h2 x hxi
        omega
    rw [this, List.nil_append]
  unfold cnt
  rw [e]
  have := List.length_filterMap_le (L i) ((List.range 9).drop i)
  simp at this
  exact this
theorem cnt_one {L : Lv} (h : LvOK L) {i : Nat} (hi : i < 9) : 1 ≤ cnt L i := by
  have : idE ∈ tr L i := (mem_tr h hi).2 ⟨i, h.one i hi⟩
  exact List.length_pos_of_mem this
theorem filterMap_congr' {α β : Type} {f g : α → Option β} : ∀ (xs : List α), (∀ x ∈ xs, f x = g x) → xs.filterMap f = xs.filterMap g
  | [], _ => rfl
  | x :: xs, h => by
    rw [List.filterMap_cons, List.filterMap_cons, h x (by simp), filterMap_congr' xs fun y hy => h y (by simp [hy])]
theorem filterMap_set : ∀ (xs : List Nat) (f : Nat → Option (List Nat)) (x : Nat) (u : List Nat), xs.Nodup → x ∈ xs → f x = none →
    (xs.filterMap fun y => if y = x then some u else f y).length = (xs.filterMap f).length + 1
  | [], _, _, _, _, h, _ => by simp at h
  | y :: ys, f, x, u, hn, hx, hf => by
    obtain ⟨h1, h2⟩ := List.nodup_cons.1 hn
    by_cases e : y = x
    · subst e
      have : (ys.filterMap fun z => if z = y then some u else f z) = ys.filterMap f := by
        apply filterMap_congr'
        intro z hz
        rw [if_neg (fun (e : z = y) => h1 (e ▸ hz))]
      simp [List.filterMap_cons, hf, this]
    · have hx' : x ∈ ys := by rcases List.mem_cons.1 hx with h | h; exact absurd h.symm e; exact h
      have ih := filterMap_set ys f x u h2 hx' hf
      simp only [List.filterMap_cons, if_neg e]
      cases f y with
      | none => exact ih
      | some v => simp [ih]
theorem cnt_set {L : Lv} {lv x : Nat} {u : List Nat} (hx : x < 9) (hn : L lv x = none) : cnt (setL L lv x u) lv = cnt L lv + 1 := by
  have := filterMap_set (List.range 9) (L lv) x u List.nodup_range (by simpa using hx) hn
  unfold cnt tr
  rw [← this]
  congr 1
  apply filterMap_congr'
  intro y _
  simp [setL]
theorem cnt_set_ne {L : Lv} {lv x i : Nat} {u : List Nat} (hi : i ≠ lv) : cnt (setL L lv x u) i = cnt L i := by
  unfold cnt tr
  congr 1
  apply filterMap_congr'
  intro y _
  simp [setL, hi]
def total (L : Lv) : Nat := cnt L 0 + cnt L 1 + cnt L 2 + cnt L 3 + cnt L 4 + cnt L 5 + cnt L 6 + cnt L 7 + cnt L 8
theorem total_le {L : Lv} (h : LvOK L) : total L ≤ 45 := by
  have h0 := cnt_low h (i := 0) (by omega)
  have h1 := cnt_low h (i := 1) (by omega)
  have h2 := cnt_low h (i := 2) (by omega)
  have h3 := cnt_low h (i := 3) (by omega)
  have h4 := cnt_low h (i := 4) (by omega)
  have h5 := cnt_low h (i := 5) (by omega)
  have h6 := cnt_low h (i := 6) (by omega)
  have h7 := cnt_low h (i := 7) (by omega)
  have h8 := cnt_low h (i := 8) (by omega)
  unfold total
  omega
theorem total_set {L : Lv} {lv x : Nat} {u : List Nat} (hlv : lv < 9) (hx : x < 9) (hn : L lv x = none) : total (setL L lv x u) = total L + 1 := by
  have hs := cnt_set (u := u) hx hn
  have hne : ∀ i, i ≠ lv → cnt (setL L lv x u) i = cnt L i := fun i hi => cnt_set_ne hi
  unfold total
  have hc : lv = 0 ∨ lv = 1 ∨ lv = 2 ∨ lv = 3 ∨ lv = 4 ∨ lv = 5 ∨ lv = 6 ∨ lv = 7 ∨ lv = 8 := by omega
  have key : ∀ i, cnt (setL L lv x u) i = cnt L i + if i = lv then 1 else 0 := by
    intro i
    by_cases e : i = lv
    · subst e; rw [hs, if_pos rfl]
    · rw [hne i e, if_neg e]; rfl
  simp only [key]
  rcases hc with rfl | rfl | rfl | rfl | rfl | rfl | rfl | rfl | rfl <;> simp <;> omega

/-- All elements of the chain with n levels left. -/
def enumS (L : Lv) : Nat → List (List Nat)
  | 0 => [idE]
  | n + 1 => (enumS L n).flatMap fun s => (tr L (8 - n)).map fun u => comp s (inv u)
theorem enumS_length (L : Lv) (n : Nat) : (enumS L (n + 1)).length = (enumS L n).length * cnt L (8 - n) := by
  simp only [enumS, List.length_flatMap, List.length_map]
  show ((enumS L n).map fun _ => cnt L (8 - n)).sum = _
  induction enumS L n with
  | nil => simp
  | cons x xs ih => rw [List.map_cons, List.sum_cons, ih, List.length_cons, Nat.succ_mul, Nat.add_comm]
theorem mem_enumS {L : Lv} (h : LvOK L) : ∀ (n : Nat), n ≤ 9 → ∀ p, p ∈ enumS L n ↔ PM 9 p ∧ InS L n p := by
  intro n
  induction n with
  | zero =>
    intro _ p
    simp only [enumS, List.mem_singleton]
    exact ⟨fun e => by subst e; exact ⟨idE_PM, InS_zero.2 rfl⟩, fun ⟨_, hs⟩ => InS_zero.1 hs⟩
  | succ n ih =>
    intro hn p
    simp only [enumS, List.mem_flatMap, List.mem_map]
    constructor
    · rintro ⟨s, hs, u, hu, rfl⟩
      obtain ⟨ps, hs'⟩ := (ih (by omega) s).1 hs
      have hu' := (mem_tr h (by omega)).1 hu
      exact ⟨ps.comp (h.und (by omega) hu').1.inv, h.inS_mk (by omega) ps hs' hu'⟩
    · rintro ⟨pp, hs⟩
      obtain ⟨s, u, ps, hs', hu, _, rfl⟩ := h.inS_cases (by omega) pp hs
      exact ⟨s, (ih (by omega) s).2 ⟨ps, hs'⟩, u, (mem_tr h (by omega)).2 hu, rfl⟩
theorem nodup_filterMap_range {f : Nat → Option (List Nat)} : ∀ (xs : List Nat), xs.Nodup → (∀ x y u, f x = some u → f y = some u → x = y) → (xs.filterMap f).Nodup
  | [], _, _ => by simp
  | x :: xs, hn, hf => by
    obtain ⟨h1, h2⟩ := List.nodup_cons.1 hn
    have ih := nodup_filterMap_range xs h2 hf
    rw [List.filterMap_cons]
    cases hx : f x with
    | none => exact ih
    | some u =>
      refine List.nodup_cons.2 ⟨fun hm => ?_, ih⟩
      obtain ⟨y, hy, hyu⟩ := List.mem_filterMap.1 hm
      exact h1 (hf x y u hx hyu ▸ hy)
theorem nodup_flatMap' {α β : Type} {f : α → List β} : ∀ (xs : List α), xs.Nodup → (∀ x ∈ xs, (f x).Nodup) → (∀ x ∈ xs, ∀ y ∈ xs, ∀ b, b ∈ f x → b ∈ f y → x = y) → (xs.flatMap f).Nodup
  | [], _, _, _ => by simp
  | x :: xs, hn, h1, h2 => by
    obtain ⟨hx, hxs⟩ := List.nodup_cons.1 hn
    rw [List.flatMap_cons, List.nodup_append]
    refine ⟨h1 x (by simp), nodup_flatMap' xs hxs (fun y hy => h1 y (by simp [hy])) (fun y hy z hz => h2 y (by simp [hy]) z (by simp [hz])), ?_⟩
    intro a ha b hb e
    subst e
    obtain ⟨y, hy, hby⟩ := List.mem_flatMap.1 hb
    exact hx (h2 x (by simp) y (by simp [hy]) a ha hby ▸ hy)
theorem enumS_nodup {L : Lv} (h : LvOK L) : ∀ (n : Nat), n ≤ 9 → (enumS L n).Nodup := by
  intro n
  induction n with
  | zero => intro _; simp [enumS]
  | succ n ih =>
    intro hn
    have hi : 8 - n < 9 := by omega
    have htr : (tr L (8 - n)).Nodup := nodup_filterMap_range _ List.nodup_range (fun x y u hx hy => by
      obtain ⟨pu, hx9, h1, _⟩ := h.at_ _ x u hi hx
      obtain ⟨_, hy9, h2, _⟩ := h.at_ _ y u hi hy
      exact pu.inj hx9 hy9 (h1.trans h2.symm))
    -- an element tells its factors
    have key : ∀ s s' u u', PM 9 s → PM 9 s' → InS L n s → InS L n s' → Und L (8 - n) u → Und L (8 - n) u' → comp s (inv u) = comp s' (inv u') → s = s' ∧ u = u' := by
      intro s s' u u' ps ps' hs hs' hu hu' e
      obtain ⟨x, hx⟩ := hu
      obtain ⟨y, hy⟩ := hu'
      obtain ⟨pu, hx9, h1, _⟩ := h.at_ _ x u hi hx
      obtain ⟨pu', hy9, h2, _⟩ := h.at_ _ y u' hi hy
      have f := h.inS_fix n s (by omega) ps hs (8 - n) (by omega)
      have f' := h.inS_fix n s' (by omega) ps' hs' (8 - n) (by omega)
      have e1 := congrArg (fun l => l.getD (8 - n) 0) e
      simp only [ps.getD_comp hi, ps'.getD_comp hi, f, f'] at e1
      have i1 := inv_getD_self pu.1 (j := x) (by rw [pu.2]; exact hx9)
      have i2 := inv_getD_self pu'.1 (j := y) (by rw [pu'.2]; exact hy9)
      rw [h1] at i1
      rw [h2] at i2
      rw [i1, i2] at e1
      subst e1
      rw [hx] at hy
      injection hy with hy
      subst hy
      exact ⟨ps.cancel ps' pu.inv e, rfl⟩
    refine nodup_flatMap' _ (ih (by omega)) (fun s hs => ?_) (fun s hs s' hs' b hb hb' => ?_)
    · obtain ⟨ps, hs'⟩ := (mem_enumS h n (by omega) s).1 hs
      rw [List.nodup_iff_pairwise_ne, List.pairwise_map]
      refine List.Pairwise.imp_of_mem (fun {u u'} hu hu' (hne : u ≠ u') e => ?_) (List.nodup_iff_pairwise_ne.1 htr)
      exact hne (key s s u u' ps ps hs' hs' ((mem_tr h hi).1 hu) ((mem_tr h hi).1 hu') e).2
    · obtain ⟨ps, h1⟩ := (mem_enumS h n (by omega) s).1 hs
      obtain ⟨ps', h1'⟩ := (mem_enumS h n (by omega) s').1 hs'
      obtain ⟨u, hu, rfl⟩ := List.mem_map.1 hb
      obtain ⟨u', hu', e⟩ := List.mem_map.1 hb'
      exact (key s s' u u' ps ps' h1 h1' ((mem_tr h hi).1 hu) ((mem_tr h hi).1 hu') e.symm).1
/-- The product of the numbers of entries up to a level. -/
def prodTo (L : Lv) : Nat → Nat
  | 0 => 1
  | k + 1 => prodTo L k * cnt L k
theorem prodTo_enum (L : Lv) : ∀ k, k ≤ 9 → prodTo L k * (enumS L (9 - k)).length = (enumS L 9).length := by
  intro k
  induction k with
  | zero => intro _; simp [prodTo]
  | succ k ih =>
    intro hk
    have := ih (by omega)
    rw [show 9 - k = (8 - k) + 1 by omega, enumS_length, show 8 - (8 - k) = k by omega] at this
    rw [← this, prodTo, show 9 - (k + 1) = 8 - k by omega]
    rw [Nat.mul_assoc, Nat.mul_comm (cnt L k)]
theorem prodTo_nine (L : Lv) : prodTo L 9 = (enumS L 9).length := by
  have := prodTo_enum L 9 (Nat.le_refl _)
  simpa [enumS] using this
theorem prodTo_le (L : Lv) : ∀ k, prodTo L k ≤ 9 ^ k
  | 0 => by simp [prodTo]
  | k + 1 => by
    rw [prodTo, Nat.pow_succ]
    exact Nat.mul_le_mul (prodTo_le L k) (cnt_le L k)
end Go.Proofs.Ytnpdlfnhpghkmaa
