/- Several texts in one. -/
import Derived.Test.YtgbipfohcailnaaPart5
import Derived.Test.YtgbipfohcailnaaBase1
/- A region that draws its order, in the part where several maps are made and filled: whatever the order, each map is there at the end. -/
namespace Go.Proofs.Ytgbipfohcailnaa
set_option linter.unusedVariables false
set_option linter.unusedSimpArgs false
open Go.RowKit Go.Maps

section
variable {P : Program} {ops : Array Oper} {Q : Exit → Act → World → Prop} {S : World → Prop} {md : Region.Mode}
theorem wpAnyH_listed {l l' : Array Bool} {fuel fuel' : Nat} {a : Act} {w : World} (h : l = l') (hf : fuel = fuel') (hh : wpAnyH P md ops Q S fuel' l' a w) : wpAnyH P md ops Q S fuel l a w := by subst h hf; exact hh
/-- The chains' states are changed one by one. -/
def upC (p : Nat → Nat) (c k : Nat) : Nat → Nat := fun x => if x = c then k else p x
def sumC (p : Nat → Nat) : Nat → Nat
  | 0 => 0
  | m + 1 => sumC p m + p m
theorem sumC_congr {p q : Nat → Nat} : ∀ {m : Nat}, (∀ c, c < m → p c = q c) → sumC p m = sumC q m
  | 0, _ => rfl
  | m + 1, h => by
    show sumC p m + p m = sumC q m + q m
    rw [sumC_congr fun c hc => h c (by omega), h m (by omega)]
theorem sumC_up (f : Nat → Nat → Nat) (p : Nat → Nat) {c k : Nat} (hk : f c k = f c (p c) + 1) : ∀ {m : Nat}, c < m → sumC (fun x => f x (upC p c k x)) m = sumC (fun x => f x (p x)) m + 1
  | m + 1, h => by
    show sumC (fun x => f x (upC p c k x)) m + f m (upC p c k m) = sumC (fun x => f x (p x)) m + f m (p m) + 1
    by_cases e : c = m
    · subst e
      rw [sumC_congr (p := fun x => f x (upC p c k x)) (q := fun x => f x (p x)) (m := c) (fun x hx => by show f x (upC p c k x) = f x (p x); rw [show upC p c k x = p x from if_neg (by omega)]), show upC p c k c = k from if_pos rfl, hk]
      omega
    · rw [sumC_up f p hk (show c < m by omega), show upC p c k m = p m from if_neg (fun h => e h.symm)]
      omega
theorem sumC_le {p q : Nat → Nat} : ∀ {m : Nat}, (∀ c, c < m → p c ≤ q c) → sumC p m ≤ sumC q m
  | 0, _ => Nat.le_refl _
  | m + 1, h => Nat.add_le_add (sumC_le fun c hc => h c (by omega)) (h m (by omega))
theorem sumC_all {p q : Nat → Nat} : ∀ (m : Nat), (∀ c, c < m → p c ≤ q c) → sumC p m = sumC q m → ∀ c, c < m → p c = q c := by
  intro m
  induction m with
  | zero => intro _ _ c hc; omega
  | succ m ih =>
    intro h e c hc
    have h1 : sumC p m ≤ sumC q m := sumC_le fun c hc => h c (by omega)
    have h2 := h m (by omega)
    have e2 : sumC p m + p m = sumC q m + q m := e
    by_cases e3 : c = m
    · subst e3; omega
    · exact ih (fun c hc => h c (by omega)) (by omega) c (by omega)
/-- m chains; chain c is in state p c; an operation i leads it to another state; V: what states there are. -/
theorem wpAnyH_chains (m : Nat) (rank : Nat → Nat → Nat) (R : Nat → Nat) (V : (Nat → Nat) → Prop) (tr : Nat → Nat → Nat → Nat → Prop) (L : (Nat → Nat) → Array Bool) (I : (Nat → Nat) → Act → World → Prop) (F : Nat)
    (hready : ∀ p : Nat → Nat, V p → (∃ c, c < m ∧ rank c (p c) ≠ R c) → Region.ready md ops (L p) ≠ [] ∧ ∀ i ∈ Region.ready md ops (L p), ∃ c k, c < m ∧ tr c (p c) i k ∧ V (upC p c k))
    (htr : ∀ p c i k, V p → c < m → tr c (p c) i k → rank c k = rank c (p c) + 1 ∧ (L p).setIfInBounds i true = L (upC p c k))
    (hR : ∀ p, V p → ∀ c, c < m → rank c (p c) ≤ R c)
    (hstep : ∀ p c i k a w, V p → V (upC p c k) → c < m → tr c (p c) i k → I p a w → wpOp P ops Q i (fun a' w' => S w' ∧ I (upC p c k) a' w') a w)
    (hend : ∀ p a w, V p → (∀ c, c < m → rank c (p c) = R c) → I p a w → wpAnyH P md ops Q S F (L p) a w) :
    ∀ (rem : Nat) (p : Nat → Nat) (a : Act) (w : World), V p → sumC (fun x => rank x (p x)) m + rem = sumC R m → I p a w → wpAnyH P md ops Q S (F + rem) (L p) a w := by
  intro rem
  induction rem with
  | zero =>
    intro p a w hp hs hi
    exact hend p a w hp (sumC_all m (fun c hc => hR p hp c hc) (by omega)) hi
  | succ rem ih =>
    intro p a w hp hs hi
    have hex : ∃ c, c < m ∧ rank c (p c) ≠ R c := by
      refine Classical.byContradiction fun hno => ?_
      have hall : ∀ c, c < m → rank c (p c) = R c := fun c hc => Classical.byContradiction fun hne => hno ⟨c, hc, hne⟩
      have := sumC_congr (p := fun x => rank x (p x)) (q := R) hall
      omega
    obtain ⟨hne, hr⟩ := hready p hp hex
    show wpAnyH P md ops Q S (F + rem + 1) (L p) a w
    refine wpAnyH_all rfl hne fun i hir => ?_
    obtain ⟨c, k, hc, ht, hv⟩ := hr i hir
    obtain ⟨hrk, hset⟩ := htr p c i k hp hc ht
    refine wpOp_mono (fun a' w' h => ?_) (hstep p c i k a w hp hv hc ht hi)
    refine ⟨h.1, ?_⟩
    rw [hset]
    exact ih (upC p c k) a' w' hv (by rw [sumC_up rank p hrk hc]; omega) h.2

/-- A chain: a map is made in slot s, filled, and moved to slot t. It has n states; in state k its map has the terms T k. -/
structure ChainM where
  s : Nat
  t : Option Nat
  n : Nat
  R : Nat
  rank : Nat → Nat
  T : Nat → List Tm
  made : Nat → Bool
  moved : Nat → Bool
  done : Nat → List Nat
  tr : Nat → List (Nat × Nat)
/-- The world while four maps are made and put away: k steps of putting away are done, the blocks that F names are not put away. -/
structure PhM (base : Nat) (M : Nat → (Nat → Prop) → World → Prop) (S : World → Prop) : Prop where
  s : ∀ {k F z}, M k F z → S z
  le : ∀ {k F z}, M k F z → base ≤ z.heap.size
  mono : ∀ {k F F' z}, (∀ x, F' x → F x) → M k F z → M k F' z
  alloc : ∀ {k F z}, M k F z → M k (fun x => F x ∨ x = z.heap.size) (z.alloc (.map #[] 0))
  ins : ∀ {k F z z' b}, M k F z → F b → base ≤ b → z.grownBy z' (some b) → M k F z'
/-- The blocks of the maps that are not ready. -/
def unf (C : Nat → ChainM) (p b : Nat → Nat) (x : Nat) : Prop := ∃ c, c < 4 ∧ (C c).made (p c) = true ∧ (C c).rank (p c) ≠ (C c).R ∧ x = b c
/-- The state: what the chains have done so far. -/
structure ChI (C : Nat → ChainM) (base : Nat) (a0 : Act) (M : Nat → (Nat → Prop) → World → Prop) (ptrs : Nat → List (Nat × Value)) (st : List Nat) (p : Nat → Nat) (a : Act) (w : World) : Prop where
  defers : a.defers = a0.defers
  size : a.tmps.size = a0.tmps.size
  other : ∀ t, (∀ c, c < 4 → t ≠ (C c).s ∧ (C c).t ≠ some t) → t ∉ st → a.tmps[t]? = a0.tmps[t]?
  ptr : ∀ y ∈ ptrs (p 4), a.tmps[y.1]? = some y.2
  maps : ∃ b : Nat → Nat, (∀ c, c < 4 → (C c).made (p c) = true → base ≤ b c ∧ MapI w (b c) ((C c).T (p c)) ∧ a.tmps[(C c).s]? = some (.map (some (b c))) ∧ (∀ t, (C c).t = some t → (C c).moved (p c) = true → a.tmps[t]? = some (.map (some (b c))))) ∧ (∀ c d, c < 4 → d < 4 → c ≠ d → (C c).made (p c) = true → (C d).made (p d) = true → b c ≠ b d) ∧ M (p 4) (unf C p b) w
/-- What operation i of chain C is, that leads from state k to state k'. -/
def ChOp (ops : Array Oper) (C : ChainM) (k i k' : Nat) : Prop :=
  (C.made k' = true ∧ C.T k' = [] ∧ C.moved k' = false ∧ ∃ t ty pos af, ops[i]? = some ⟨some C.s, .makeMap t none, ty, pos, af, none⟩) ∨
  (C.made k = true ∧ C.made k' = true ∧ C.moved k' = false ∧ ∃ e v t ty pos af, C.T k' = putT (C.T k) e v ∧ (C.T k).length < 1000000 ∧ (Lit.int .i64 e).wf = true ∧ Try.prog.underlying t = some (.map 3 3) ∧ ops[i]? = some ⟨none, .insert t (.tmp C.s) (.const (.int .i64 e)) (.const (.int .i64 v)), ty, pos, af, none⟩) ∨
  (C.made k = true ∧ C.made k' = true ∧ C.T k' = C.T k ∧ ∃ t' ty pos af, C.t = some t' ∧ ops[i]? = some ⟨some t', .move (.tmp C.s), ty, pos, af, none⟩)
theorem eval_tmp {a : Act} {s : Nat} {v : Value} (h : a.tmps[s]? = some v) : a.eval (.tmp s) = v := by
  show a.tmps.getD s undef = v
  rw [Array.getD_eq_getD_getElem?, h]
  rfl
theorem put_at {a : Act} {s : Nat} {v : Value} (h : s < a.tmps.size) : (a.put (some s) v).tmps[s]? = some v := by
  show (a.tmps.setIfInBounds s v)[s]? = some v
  simp [h]
theorem put_ne {a : Act} {s t : Nat} {v : Value} (h : t ≠ s) : (a.put (some s) v).tmps[t]? = a.tmps[t]? := by
  show (a.tmps.setIfInBounds s v)[t]? = _
  rw [Array.getElem?_setIfInBounds_ne (fun e => h e.symm)]
theorem put_size {a : Act} {s : Nat} {v : Value} : (a.put (some s) v).tmps.size = a.tmps.size := by
  show (a.tmps.setIfInBounds s v).size = _
  simp
theorem chI_step {C : Nat → ChainM} {base : Nat} {a0 : Act} {M : Nat → (Nat → Prop) → World → Prop} {ptrs : Nat → List (Nat × Value)} {st : List Nat} {S : World → Prop} {p : Nat → Nat} {a : Act} {w : World} {c i k : Nat} {Q : Exit → Act → World → Prop} {ops : Array Oper}
    (hM : PhM base M S)
    (hslot : ∀ c, c < 4 → (C c).s < a0.tmps.size ∧ (∀ t, (C c).t = some t → t < a0.tmps.size ∧ t ≠ (C c).s) ∧ ∀ d, d < 4 → c ≠ d → (C c).s ≠ (C d).s ∧ (C c).t ≠ some (C d).s ∧ ∀ t, (C c).t = some t → (C d).t ≠ some t)
    (hst : ∀ c, c < 4 → (C c).s ∉ st ∧ ∀ t, (C c).t = some t → t ∉ st) (hptr : ∀ k, ∀ y ∈ ptrs k, y.1 ∈ st)
    (h : ChI C base a0 M ptrs st p a w) (hc : c < 4) (hrk : (C c).rank (p c) ≠ (C c).R) (ho : ChOp ops (C c) (p c) i k) :
    wpOp Try.prog ops Q i (fun a' w' => S w' ∧ ChI C base a0 M ptrs st (upC p c k) a' w') a w := by
  obtain ⟨b, hb, hd, hMw⟩ := h.maps
  obtain ⟨hs1, hs2, hs3⟩ := hslot c hc
  have upc : upC p c k c = k := if_pos rfl
  have upd : ∀ d, d ≠ c → upC p c k d = p d := fun d hd => if_neg hd
  have up4 : upC p c k 4 = p 4 := upd 4 (by omega)
  have hbw : base ≤ w.heap.size := hM.le hMw
  rcases ho with ⟨hk1, hk2, hk3, t, ty, pos, af, hop⟩ | ⟨hk0, hk1, hk3, ke, kv, t, ty, pos, af, hk2, hk4, hk5, hu, hop⟩ | ⟨hk0, hk1, hk2, t', ty, pos, af, ht, hop⟩
  · have hMa := hM.alloc hMw
    have hW := hM.s hMa
    have hba : Below w.heap.size w (w.alloc (.map #[] 0)) := (Below.refl _ _).alloc (Nat.le_refl _) _
    unfold wpOp
    simp only [hop]
    refine .inl ?_
    unfold Oper.wp execOp
    have hmm := @run_makeMap Try.prog t w
    simp [hmm, Result.andThen]
    refine ⟨hW, h.defers, by rw [put_size]; exact h.size, fun u hu hus => ?_, fun y hy => ?_, fun x => if x = c then w.heap.size else b x, fun d hdm hp => ?_, fun d e hdm hem hde hpd hpe => ?_, ?_⟩
    · rw [put_ne (hu c hc).1]; exact h.other u hu hus
    · rw [up4] at hy
      rw [put_ne (fun e => (hst c hc).1 (by rw [← e]; exact hptr _ y hy))]; exact h.ptr y hy
    · by_cases e : d = c
      · subst e
        rw [upc, hk2]
        show base ≤ (if d = d then w.heap.size else b d) ∧ MapI _ (if d = d then w.heap.size else b d) [] ∧ _ = some (Value.map (some (if d = d then w.heap.size else b d))) ∧ ∀ t, _ → _ → _ = some (Value.map (some (if d = d then w.heap.size else b d)))
        rw [if_pos rfl]
        exact ⟨hbw, MapI.made w, put_at (by rw [h.size]; exact hs1), fun u hu hl => by rw [hk3] at hl; cases hl⟩
      · rw [upd d e] at hp ⊢
        show base ≤ (if d = c then w.heap.size else b d) ∧ MapI _ (if d = c then w.heap.size else b d) _ ∧ _ = some (Value.map (some (if d = c then w.heap.size else b d))) ∧ ∀ t, _ → _ → _ = some (Value.map (some (if d = c then w.heap.size else b d)))
        rw [if_neg e]
        obtain ⟨h1, h2, h3, h4⟩ := hb d hdm hp
        refine ⟨h1, h2.below hba, by rw [put_ne (fun e2 => (hs3 d hdm (fun e3 => e e3.symm)).1 e2.symm)]; exact h3, fun u hu hl => ?_⟩
        have hne : u ≠ (C c).s := fun e2 => ((hslot d hdm).2.2 c hc e).2.1 (by rw [hu, e2])
        rw [put_ne hne]; exact h4 u hu hl
    · show (if d = c then w.heap.size else b d) ≠ (if e = c then w.heap.size else b e)
      by_cases e1 : d = c
      · have e2 : e ≠ c := fun h => hde (by rw [e1, h])
        rw [upd e e2] at hpe
        rw [if_pos e1, if_neg e2]
        have := (hb e hem hpe).2.1.lt
        omega
      · rw [upd d e1] at hpd
        rw [if_neg e1]
        by_cases e2 : e = c
        · rw [if_pos e2]
          have := (hb d hdm hpd).2.1.lt
          omega
        · rw [upd e e2] at hpe
          rw [if_neg e2]
          exact hd d e hdm hem hde hpd hpe
    · rw [up4]
      refine hM.mono (fun x hx => ?_) hMa
      obtain ⟨d, hd1, hd2, hd3, hd4⟩ := hx
      by_cases e : d = c
      · subst e
        exact .inr (by rw [hd4]; exact if_pos rfl)
      · rw [upd d e] at hd2 hd3
        exact .inl ⟨d, hd1, hd2, hd3, by rw [hd4]; exact if_neg e⟩
  · obtain ⟨g1, g2, g3, g4⟩ := hb c hc hk0
    obtain ⟨w', hrun, r1, r2, r3⟩ := g2.store hu hk5 (v := kv) hk4
    have hMi := hM.ins hMw ⟨c, hc, hk0, hrk, rfl⟩ g1 r2
    have hW := hM.s hMi
    unfold wpOp
    simp only [hop]
    refine .inl ?_
    unfold Oper.wp
    have hev : a.eval (.tmp (C c).s) = .map (some (b c)) := eval_tmp g3
    have hev2 : ∀ v, a.eval (.const v) = v := fun _ => rfl
    simp [execOp, hev, hev2, hrun, Result.andThen]
    have hq : ∀ x, x < 4 → (C x).made (upC p c k x) = true → (C x).made (p x) = true := fun x _ hx => by
      by_cases e1 : x = c
      · subst e1; exact hk0
      · rw [upd x e1] at hx; exact hx
    refine ⟨hW, h.defers, h.size, h.other, by rw [up4]; exact h.ptr, b, fun d hdm hp => ?_, fun d e hdm hem hde hpd hpe => hd d e hdm hem hde (hq d hdm hpd) (hq e hem hpe), ?_⟩
    · by_cases e : d = c
      · subst e
        rw [upc, hk2]
        exact ⟨g1, r1, g3, fun u hu hl => by rw [hk3] at hl; cases hl⟩
      · rw [upd d e] at hp ⊢
        obtain ⟨h1, h2, h3, h4⟩ := hb d hdm hp
        exact ⟨h1, h2.kept r2 (by intro e2; injection e2 with e2; exact hd d c hdm hc e hp hk0 e2), h3, h4⟩
    · rw [up4]
      refine hM.mono (fun x hx => ?_) hMi
      obtain ⟨d, hd1, hd2, hd3, hd4⟩ := hx
      by_cases e : d = c
      · subst e; exact ⟨d, hd1, hk0, hrk, hd4⟩
      · rw [upd d e] at hd2 hd3
        exact ⟨d, hd1, hd2, hd3, hd4⟩
  · obtain ⟨g1, g2, g3, g4⟩ := hb c hc hk0
    obtain ⟨ht1, ht2⟩ := hs2 t' ht
    unfold wpOp
    simp only [hop]
    refine .inl ?_
    refine wp_gives (v := .map (some (b c))) (gives_move (.inl rfl) (eval_tmp g3)) ?_
    have hq : ∀ x, x < 4 → (C x).made (upC p c k x) = true → (C x).made (p x) = true := fun x _ hx => by
      by_cases e1 : x = c
      · subst e1; exact hk0
      · rw [upd x e1] at hx; exact hx
    refine ⟨hM.s hMw, h.defers, by rw [put_size]; exact h.size, fun u hu hus => ?_, fun y hy => ?_, b, fun d hdm hp => ?_, fun d e hdm hem hde hpd hpe => hd d e hdm hem hde (hq d hdm hpd) (hq e hem hpe), ?_⟩
    · rw [put_ne (fun e => (hu c hc).2 (by rw [ht, e]))]; exact h.other u hu hus
    · rw [up4] at hy
      rw [put_ne (fun e => (hst c hc).2 t' ht (by rw [← e]; exact hptr _ y hy))]; exact h.ptr y hy
    · by_cases e : d = c
      · subst e
        rw [upc, hk2]
        refine ⟨g1, g2, by rw [put_ne (fun e => ht2 e.symm)]; exact g3, fun u hu hl => ?_⟩
        rw [ht] at hu
        injection hu with hu
        subst hu
        exact put_at (by rw [h.size]; exact ht1)
      · rw [upd d e] at hp ⊢
        obtain ⟨h1, h2, h3, h4⟩ := hb d hdm hp
        refine ⟨h1, h2, by rw [put_ne (fun e2 => (hs3 d hdm (fun e3 => e e3.symm)).2.1 (by rw [ht, e2]))]; exact h3, fun u hu hl => ?_⟩
        have hne : u ≠ t' := fun e2 => (hs3 d hdm (fun e3 => e e3.symm)).2.2 t' ht (by rw [hu, e2])
        rw [put_ne hne]; exact h4 u hu hl
    · rw [up4]
      refine hM.mono (fun x hx => ?_) hMw
      obtain ⟨d, hd1, hd2, hd3, hd4⟩ := hx
      by_cases e : d = c
      · subst e; exact ⟨d, hd1, hk0, hrk, hd4⟩
      · rw [upd d e] at hd2 hd3
        exact ⟨d, hd1, hd2, hd3, hd4⟩
/-- The slots of four chains are different. -/
def chkS (C : Nat → ChainM) (K : Nat) : Bool := (List.range 4).all fun c => decide ((C c).s < K) && (match (C c).t with | none => true | some t => decide (t < K) && t != (C c).s) &&
  (List.range 4).all fun d => c == d || ((C c).s != (C d).s && (C c).t != some (C d).s && (match (C c).t with | none => true | some t => (C d).t != some t))
theorem chkS_spec {C : Nat → ChainM} {K : Nat} (h : chkS C K = true) : ∀ c, c < 4 → (C c).s < K ∧ (∀ t, (C c).t = some t → t < K ∧ t ≠ (C c).s) ∧ ∀ d, d < 4 → c ≠ d → (C c).s ≠ (C d).s ∧ (C c).t ≠ some (C d).s ∧ ∀ t, (C c).t = some t → (C d).t ≠ some t := by
  intro c hc
  have h1 := List.all_eq_true.1 h c (List.mem_range.2 hc)
  simp only [Bool.and_eq_true] at h1
  obtain ⟨⟨h2, h3⟩, h4⟩ := h1
  refine ⟨of_decide_eq_true h2, fun t ht => ?_, fun d hd hcd => ?_⟩
  · rw [ht] at h3
    simp only [Bool.and_eq_true, bne_iff_ne] at h3
    exact ⟨of_decide_eq_true h3.1, h3.2⟩
  · have h5 := List.all_eq_true.1 h4 d (List.mem_range.2 hd)
    rw [Bool.or_eq_true] at h5
    rcases h5 with h6 | h6
    · exact absurd (by simpa using h6) hcd
    · simp only [Bool.and_eq_true, bne_iff_ne] at h6
      refine ⟨h6.1.1, h6.1.2, fun t ht => ?_⟩
      have h7 := h6.2
      rw [ht] at h7
      simpa using h7
/-- All that a chain leaves. -/
def putC (C : ChainM) (v : Value) (a : Act) : Act := match C.t with | some t => (a.put (some C.s) v).put (some t) v | none => a.put (some C.s) v
theorem act_ext {a b : Act} (h1 : a.defers = b.defers) (h2 : a.tmps.size = b.tmps.size) (h3 : ∀ t : Nat, a.tmps[t]? = b.tmps[t]?) : a = b := by
  cases a; cases b
  simp only at h1 h2 h3
  subst h1
  congr 1
  refine Array.ext h2 fun i hi1 hi2 => ?_
  have h := h3 i
  rw [Array.getElem?_eq_getElem hi1, Array.getElem?_eq_getElem hi2] at h
  injection h
theorem put_self {a : Act} {s : Nat} {v : Value} {t : Nat} (hs : s < a.tmps.size) : (a.put (some s) v).tmps[t]? = if t = s then some v else a.tmps[t]? := by
  by_cases h : t = s
  · rw [if_pos h, h, put_at hs]
  · rw [if_neg h, put_ne h]
theorem putC_size (C : ChainM) (v : Value) (a : Act) : (putC C v a).tmps.size = a.tmps.size := by
  unfold putC
  split
  · rw [put_size, put_size]
  · rw [put_size]
theorem putC_defers (C : ChainM) (v : Value) (a : Act) : (putC C v a).defers = a.defers := by
  unfold putC
  split <;> rfl
theorem putC_get {C : ChainM} {v : Value} {a : Act} {t : Nat} (hs : C.s < a.tmps.size) (ht : ∀ u, C.t = some u → u < a.tmps.size) : (putC C v a).tmps[t]? = if t = C.s ∨ C.t = some t then some v else a.tmps[t]? := by
  unfold putC
  split
  · next u hu =>
    rw [put_self (by rw [put_size]; exact ht u hu), put_self hs, hu]
    by_cases h1 : t = u
    · rw [if_pos h1, if_pos (.inr (by rw [h1]))]
    · rw [if_neg h1]
      by_cases h2 : t = C.s
      · rw [if_pos h2, if_pos (.inl h2)]
      · rw [if_neg h2, if_neg (by rintro (h | h); exact h2 h; injection h with h; exact h1 h.symm)]
  · next hu =>
    rw [put_self hs, hu]
    by_cases h2 : t = C.s
    · rw [if_pos h2, if_pos (.inl h2)]
    · rw [if_neg h2, if_neg (by rintro (h | h); exact h2 h; cases h)]
/-- The pointers put into their slots. -/
def putL : List (Nat × Value) → Act → Act
  | [], a => a
  | y :: l, a => putL l (a.put (some y.1) y.2)
theorem putL_size : ∀ (l : List (Nat × Value)) (a : Act), (putL l a).tmps.size = a.tmps.size
  | [], _ => rfl
  | y :: l, a => by
    show (putL l (a.put (some y.1) y.2)).tmps.size = _
    rw [putL_size l, put_size]
theorem putL_defers : ∀ (l : List (Nat × Value)) (a : Act), (putL l a).defers = a.defers
  | [], _ => rfl
  | y :: l, a => by
    show (putL l (a.put (some y.1) y.2)).defers = _
    rw [putL_defers l]
    rfl
theorem putL_other : ∀ (l : List (Nat × Value)) (a : Act) (t : Nat), (∀ y ∈ l, y.1 ≠ t) → (putL l a).tmps[t]? = a.tmps[t]?
  | [], _, _, _ => rfl
  | y :: l, a, t, h => by
    show (putL l (a.put (some y.1) y.2)).tmps[t]? = _
    rw [putL_other l _ t fun z hz => h z (by simp [hz]), put_ne (fun e => h y (by simp) e.symm)]
theorem putL_at : ∀ (l : List (Nat × Value)) (a : Act), (l.map (·.1)).Nodup → (∀ y ∈ l, y.1 < a.tmps.size) → ∀ y ∈ l, (putL l a).tmps[y.1]? = some y.2
  | [], _, _, _, _, h => by cases h
  | z :: l, a, hn, hs, y, h => by
    show (putL l (a.put (some z.1) z.2)).tmps[y.1]? = _
    rw [List.map_cons, List.nodup_cons] at hn
    rcases List.mem_cons.1 h with rfl | h
    · rw [putL_other l _ y.1 fun x hx e => hn.1 (by rw [← e]; exact List.mem_map.2 ⟨x, hx, rfl⟩), put_at (hs y (by simp))]
    · exact putL_at l _ hn.2 (fun x hx => by rw [put_size]; exact hs x (by simp [hx])) y h
theorem ChI.act {C : Nat → ChainM} {base K : Nat} {a0 a : Act} {M : Nat → (Nat → Prop) → World → Prop} {ptrs : Nat → List (Nat × Value)} {st : List Nat} {w : World} {p : Nat → Nat} (h : ChI C base a0 M ptrs st p a w) (hK : a0.tmps.size = K) (hs : chkS C K = true) (hm : ∀ c, c < 4 → (C c).made (p c) = true) (hv : ∀ c, c < 4 → (C c).t ≠ none → (C c).moved (p c) = true)
    (hst : ∀ c, c < 4 → (C c).s ∉ st ∧ ∀ t, (C c).t = some t → t ∉ st) (hp1 : (ptrs (p 4)).map (·.1) = st) (hp2 : st.Nodup) (hp3 : ∀ t ∈ st, t < K) :
    ∃ b : Nat → Nat, a = putL (ptrs (p 4)) (putC (C 3) (.map (some (b 3))) (putC (C 2) (.map (some (b 2))) (putC (C 1) (.map (some (b 1))) (putC (C 0) (.map (some (b 0))) a0)))) := by
  obtain ⟨b, hb, _, _⟩ := h.maps
  have hsp := chkS_spec hs
  refine ⟨b, act_ext ?_ ?_ fun t => ?_⟩
  · rw [putL_defers, putC_defers, putC_defers, putC_defers, putC_defers]; exact h.defers
  · rw [putL_size, putC_size, putC_size, putC_size, putC_size]; exact h.size
  · by_cases hts : t ∈ st
    · rw [← hp1] at hts
      obtain ⟨y, hy, rfl⟩ := List.mem_map.1 hts
      rw [h.ptr y hy]
      refine (putL_at _ _ (by rw [hp1]; exact hp2) (fun z hz => ?_) y hy).symm
      rw [putC_size, putC_size, putC_size, putC_size, hK]
      exact hp3 z.1 (by rw [← hp1]; exact List.mem_map.2 ⟨z, hz, rfl⟩)
    rw [putL_other _ _ t (fun y hy e => hts (by rw [← hp1, ← e]; exact List.mem_map.2 ⟨y, hy, rfl⟩))]
    have z : ∀ c, c < 4 → (C c).s < a0.tmps.size ∧ ∀ u, (C c).t = some u → u < a0.tmps.size := fun c hc => by
      rw [hK]; exact ⟨(hsp c hc).1, fun u hu => ((hsp c hc).2.1 u hu).1⟩
    rw [putC_get (by rw [putC_size, putC_size, putC_size]; exact (z 3 (by omega)).1) (by rw [putC_size, putC_size, putC_size]; exact (z 3 (by omega)).2),
      putC_get (by rw [putC_size, putC_size]; exact (z 2 (by omega)).1) (by rw [putC_size, putC_size]; exact (z 2 (by omega)).2),
      putC_get (by rw [putC_size]; exact (z 1 (by omega)).1) (by rw [putC_size]; exact (z 1 (by omega)).2), putC_get (z 0 (by omega)).1 (z 0 (by omega)).2]
    have key : ∀ c, c < 4 → (t = (C c).s ∨ (C c).t = some t) → a.tmps[t]? = some (.map (some (b c))) := fun c hc hh => by
      obtain ⟨_, _, h3, h4⟩ := hb c hc (hm c hc)
      rcases hh with rfl | hh
      · exact h3
      · exact h4 t hh (hv c hc (by rw [hh]; simp))
    by_cases h3 : t = (C 3).s ∨ (C 3).t = some t
    · rw [if_pos h3]; exact key 3 (by omega) h3
    · rw [if_neg h3]
      by_cases h2 : t = (C 2).s ∨ (C 2).t = some t
      · rw [if_pos h2]; exact key 2 (by omega) h2
      · rw [if_neg h2]
        by_cases h1 : t = (C 1).s ∨ (C 1).t = some t
        · rw [if_pos h1]; exact key 1 (by omega) h1
        · rw [if_neg h1]
          by_cases h0 : t = (C 0).s ∨ (C 0).t = some t
          · rw [if_pos h0]; exact key 0 (by omega) h0
          · rw [if_neg h0]
            refine h.other t (fun c hc => ?_) hts
            have : c = 0 ∨ c = 1 ∨ c = 2 ∨ c = 3 := by omega
            rcases this with rfl | rfl | rfl | rfl
            · exact ⟨fun e => h0 (.inl e), fun e => h0 (.inr e)⟩
            · exact ⟨fun e => h1 (.inl e), fun e => h1 (.inr e)⟩
            · exact ⟨fun e => h2 (.inl e), fun e => h2 (.inr e)⟩
            · exact ⟨fun e => h3 (.inl e), fun e => h3 (.inr e)⟩
theorem List.any_congr_left_ {α : Type} {f g : α → Bool} : ∀ {l : List α}, (∀ x ∈ l, f x = g x) → l.any f = l.any g
  | [], _ => rfl
  | x :: l, h => by rw [List.any_cons, List.any_cons, h x (by simp), List.any_congr_left_ fun y hy => h y (by simp [hy])]
/-- What is listed in the states p. -/
def lst (C : Nat → ChainM) (N k0 : Nat) (p : Nat → Nat) : Array Bool := ((List.range N).map fun i => decide (i < k0) || (List.range 5).any fun c => ((C c).done (p c)).contains i).toArray
def pOf (a b c d e : Nat) : Nat → Nat := fun x => if x = 0 then a else if x = 1 then b else if x = 2 then c else if x = 3 then d else e
/-- What each operation from k0 on waits for, of what is from k0 on. -/
def needsOf (md : Region.Mode) (ops : Array Oper) (k0 : Nat) : List (Nat × List Nat) :=
  ((List.range ops.size).filter fun i => decide (k0 ≤ i)).map fun i => (i, ((ops[i]?).map fun o => (o.after.toList.filter fun e => Region.binds md e && decide (k0 ≤ e.on)).map (·.on)).getD [])
def lstF (C : Nat → ChainM) (N : Nat) (p : Nat → Nat) (i : Nat) : Bool := decide (i < N) && (List.range 5).any fun c => ((C c).done (p c)).contains i
def rdy (ns : List (Nat × List Nat)) (f : Nat → Bool) : List Nat := (ns.filter fun y => !f y.1 && y.2.all f).map (·.1)
theorem lst_getD {C : Nat → ChainM} {N k0 : Nat} {p : Nat → Nat} {i : Nat} {d : Bool} (h : i < N) : (lst C N k0 p).getD i d = (decide (i < k0) || lstF C N p i) := by
  unfold lst lstF
  rw [Array.getD_eq_getD_getElem?]
  simp [h]
theorem lst_getD_ge {C : Nat → ChainM} {N k0 : Nat} {p : Nat → Nat} {i : Nat} {d : Bool} (h : N ≤ i) : (lst C N k0 p).getD i d = d := by
  unfold lst
  rw [Array.getD_eq_getD_getElem?]
  simp [h]
theorem mem_ready {ops : Array Oper} {md : Region.Mode} {C : Nat → ChainM} {N k0 : Nat} {p : Nat → Nat} (hN : ops.size = N) (hk : k0 ≤ N) (i : Nat) : i ∈ Region.ready md ops (lst C N k0 p) ↔ i ∈ rdy (needsOf md ops k0) (lstF C N p) := by
  unfold Region.ready rdy needsOf
  simp only [List.mem_filter, List.mem_map, List.mem_range]
  constructor
  · rintro ⟨hi, h⟩
    rw [Bool.and_eq_true] at h
    obtain ⟨h1, h2⟩ := h
    rw [lst_getD (by omega)] at h1
    have hik : k0 ≤ i := by
      refine Nat.le_of_not_lt fun hlt => ?_
      rw [show decide (i < k0) = true from decide_eq_true hlt] at h1
      cases h1
    rw [show decide (i < k0) = false from decide_eq_false (by omega), Bool.false_or] at h1
    obtain ⟨o, ho⟩ : ∃ o, ops[i]? = some o := ⟨ops[i], Array.getElem?_eq_getElem hi⟩
    rw [ho] at h2
    refine ⟨_, ⟨⟨i, ⟨hi, decide_eq_true hik⟩, rfl⟩, ?_⟩, rfl⟩
    rw [ho, Bool.and_eq_true]
    refine ⟨h1, ?_⟩
    simp only [Option.map_some, Option.getD_some] at h2 ⊢
    rw [List.all_eq_true]
    intro x hx
    obtain ⟨e, he, rfl⟩ := List.mem_map.1 hx
    obtain ⟨he1, he2⟩ := List.mem_filter.1 he
    rw [Bool.and_eq_true] at he2
    have h3 := Array.all_eq_true'.1 h2 e (Array.mem_toList_iff.1 he1)
    rw [he2.1] at h3
    simp only [Bool.not_true, Bool.false_or] at h3
    by_cases hon : e.on < N
    · rw [lst_getD hon, show decide (e.on < k0) = false from decide_eq_false (by have := of_decide_eq_true he2.2; omega), Bool.false_or] at h3
      exact h3
    · rw [lst_getD_ge (by omega)] at h3; cases h3
  · rintro ⟨y, ⟨⟨j, ⟨hj, hjk⟩, rfl⟩, h⟩, hij⟩
    change j = i at hij
    subst hij
    have hjk' := of_decide_eq_true hjk
    rw [Bool.and_eq_true] at h
    obtain ⟨h1, h2⟩ := h
    refine ⟨hj, ?_⟩
    obtain ⟨o, ho⟩ : ∃ o, ops[j]? = some o := ⟨ops[j], Array.getElem?_eq_getElem hj⟩
    rw [ho] at h2 ⊢
    rw [Bool.and_eq_true]
    refine ⟨by rw [lst_getD (by omega), show decide (j < k0) = false from decide_eq_false (by omega), Bool.false_or]; exact h1, ?_⟩
    simp only [Option.map_some, Option.getD_some] at h2 ⊢
    rw [Array.all_eq_true']
    intro e he
    cases hb : Region.binds md e with
    | false => rfl
    | true =>
      rw [Bool.not_true, Bool.false_or]
      by_cases hlt : e.on < k0
      · rw [lst_getD (by omega), decide_eq_true hlt]; rfl
      · have h3 := List.all_eq_true.1 h2 e.on (List.mem_map.2 ⟨e, List.mem_filter.2 ⟨Array.mem_toList_iff.2 he, by rw [hb]; exact decide_eq_true (by omega)⟩, rfl⟩)
        have hlt2 : e.on < N := by
          unfold lstF at h3
          rw [Bool.and_eq_true] at h3
          exact of_decide_eq_true h3.1
        rw [lst_getD hlt2, h3, Bool.or_true]
/-- Step 2 j + 1 of putting away is taken when chain j is done. -/
def vld (C : Nat → ChainM) (p : Nat → Nat) : Bool := (List.range 4).all fun j => decide (p 4 < 2 * j + 1) || (C j).rank (p j) == (C j).R
def chk5 (ns : List (Nat × List Nat)) (N : Nat) (C : Nat → ChainM) : Bool :=
  (List.range (C 4).n).all fun e => (List.range (C 0).n).all fun a => (List.range (C 1).n).all fun b => (List.range (C 2).n).all fun c => (List.range (C 3).n).all fun d =>
    !vld C (pOf a b c d e) || ((C 0).rank a == (C 0).R && (C 1).rank b == (C 1).R && (C 2).rank c == (C 2).R && (C 3).rank d == (C 3).R && (C 4).rank e == (C 4).R) ||
      (rdy ns (lstF C N (pOf a b c d e)) != [] && (rdy ns (lstF C N (pOf a b c d e))).all fun i => (List.range 5).any fun x => ((C x).tr (pOf a b c d e x)).any fun y => y.1 == i && vld C (upC (pOf a b c d e) x y.2))
theorem vld_congr {C : Nat → ChainM} {p q : Nat → Nat} (h : ∀ c, c < 5 → p c = q c) : vld C p = vld C q := by
  unfold vld
  rw [Bool.eq_iff_iff, List.all_eq_true, List.all_eq_true]
  constructor
  · intro hh c hc; rw [← h 4 (by omega), ← h c (by have := List.mem_range.1 hc; omega)]; exact hh c hc
  · intro hh c hc; rw [h 4 (by omega), h c (by have := List.mem_range.1 hc; omega)]; exact hh c hc
theorem lstF_congr {C : Nat → ChainM} {N : Nat} {p q : Nat → Nat} (h : ∀ c, c < 5 → p c = q c) : lstF C N p = lstF C N q := by
  funext i
  unfold lstF
  congr 1
  refine List.any_congr_left_ fun c hc => ?_
  rw [h c (List.mem_range.1 hc)]
def chkT (N k0 : Nat) (C : Nat → ChainM) : Bool :=
  (List.range 5).all fun x => (List.range (C x).n).all fun k => decide ((C x).rank k ≤ (C x).R) && ((C x).tr k).all fun y => decide (y.2 < (C x).n) && (C x).rank y.2 == (C x).rank k + 1 && decide (k0 ≤ y.1) && decide (y.1 < N) &&
    (List.range N).all fun i => (((C x).done y.2).contains i == (((C x).done k).contains i || i == y.1))
theorem lst_congr {C : Nat → ChainM} {N k0 : Nat} {p q : Nat → Nat} (h : ∀ c, c < 5 → p c = q c) : lst C N k0 p = lst C N k0 q := by
  unfold lst
  congr 1
  refine List.map_congr_left fun i _ => ?_
  congr 1
  refine List.any_congr_left_ fun c hc => ?_
  rw [h c (List.mem_range.1 hc)]
theorem pOf_eq (p : Nat → Nat) : ∀ c, c < 5 → p c = pOf (p 0) (p 1) (p 2) (p 3) (p 4) c := by
  intro c hc
  have : c = 0 ∨ c = 1 ∨ c = 2 ∨ c = 3 ∨ c = 4 := by omega
  rcases this with rfl | rfl | rfl | rfl | rfl <;> rfl
theorem lst_set {C : Nat → ChainM} {N k0 : Nat} {p : Nat → Nat} {c i k : Nat} (hc : c < 5) (hi : i < N) (hd : ∀ j, j < N → ((C c).done k).contains j = (((C c).done (p c)).contains j || j == i)) : (lst C N k0 p).setIfInBounds i true = lst C N k0 (upC p c k) := by
  unfold lst
  refine Array.ext (by simp) fun j h1 h2 => ?_
  simp only [Array.size_setIfInBounds, List.size_toArray, List.length_map, List.length_range] at h1
  rw [Array.getElem_setIfInBounds (by simpa using h1)]
  simp only [List.getElem_toArray, List.getElem_map, List.getElem_range]
  by_cases e : i = j
  · subst e
    rw [if_pos rfl]
    symm
    rw [Bool.or_eq_true]
    refine .inr (List.any_eq_true.2 ⟨c, List.mem_range.2 hc, ?_⟩)
    rw [show upC p c k c = k from if_pos rfl, hd i hi]
    simp
  · rw [if_neg e]
    congr 1
    refine List.any_congr_left_ fun d _ => ?_
    by_cases e2 : d = c
    · subst e2
      rw [show upC p d k d = k from if_pos rfl, hd j h1]
      rw [show (j == i) = false by simpa using fun h => e h.symm, Bool.or_false]
    · rw [show upC p c k d = p d from if_neg e2]
/-- In a drawn region four maps are made, filled and moved in any order, and the steps of a fifth chain are taken in their order. -/
theorem wpAnyH_five {ops : Array Oper} {Q : Exit → Act → World → Prop} {base : Nat} {S : World → Prop} {M : Nat → (Nat → Prop) → World → Prop} (hM : PhM base M S) (C : Nat → ChainM) (N k0 F : Nat) (a0 : Act) (w : World)
    (ns : List (Nat × List Nat)) (hns : needsOf .any ops k0 = ns) (hN : ops.size = N) (hk0 : k0 ≤ N) (hchk : chk5 ns N C = true) (hchkT : chkT N k0 C = true) (h0 : ∀ c, c < 5 → 0 < (C c).n ∧ (C c).rank 0 = 0) (h1 : ∀ c, c < 4 → (C c).made 0 = false) (h2 : vld C (fun _ => 0) = true)
    (hops : ∀ c, c < 4 → ∀ k, k < (C c).n → ∀ y ∈ (C c).tr k, ChOp ops (C c) k y.1 y.2)
    (ptrs : Nat → List (Nat × Value)) (st : List Nat) (hst : ∀ c, c < 4 → (C c).s ∉ st ∧ ∀ t, (C c).t = some t → t ∉ st) (hptr : ∀ k, ∀ y ∈ ptrs k, y.1 ∈ st) (hp0 : ptrs 0 = [])
    (K : Nat) (hK : a0.tmps.size = K) (hslots : chkS C K = true) (hw : M 0 (fun _ => False) w)
    (hfive : ∀ p i k a w, (∀ c, c < 5 → p c < (C c).n) → vld C (upC p 4 k) = true → (i, k) ∈ (C 4).tr (p 4) → ChI C base a0 M ptrs st p a w → wpOp Try.prog ops Q i (fun a' w' => S w' ∧ ChI C base a0 M ptrs st (upC p 4 k) a' w') a w)
    (hend : ∀ p a w, (∀ c, c < 5 → p c < (C c).n) → (∀ c, c < 5 → (C c).rank (p c) = (C c).R) → ChI C base a0 M ptrs st p a w → wpAnyH Try.prog .any ops Q S F (lst C N k0 p) a w) :
    wpAnyH Try.prog .any ops Q S (F + sumC (fun c => (C c).R) 5) (lst C N k0 fun _ => 0) a0 w := by
  have hslot := chkS_spec (by rw [← hK] at hslots; exact hslots)
  have hT : ∀ x, x < 5 → ∀ k, k < (C x).n → (C x).rank k ≤ (C x).R ∧ ∀ y ∈ (C x).tr k, y.2 < (C x).n ∧ (C x).rank y.2 = (C x).rank k + 1 ∧ y.1 < N ∧ ∀ i, i < N → ((C x).done y.2).contains i = (((C x).done k).contains i || i == y.1) := fun x hx k hk => by
    have h1 := List.all_eq_true.1 (List.all_eq_true.1 hchkT x (List.mem_range.2 hx)) k (List.mem_range.2 hk)
    rw [Bool.and_eq_true] at h1
    refine ⟨of_decide_eq_true h1.1, fun y hy => ?_⟩
    have h2 := List.all_eq_true.1 h1.2 y hy
    simp only [Bool.and_eq_true] at h2
    obtain ⟨⟨⟨⟨h3, h4⟩, h5⟩, h6⟩, h7⟩ := h2
    exact ⟨of_decide_eq_true h3, by simpa using h4, of_decide_eq_true h6, fun i hi => by simpa using List.all_eq_true.1 h7 i (List.mem_range.2 hi)⟩
  refine wpAnyH_chains 5 (fun c k => (C c).rank k) (fun c => (C c).R) (fun p => (∀ c, c < 5 → p c < (C c).n) ∧ vld C p = true) (fun c k i k' => (i, k') ∈ (C c).tr k) (fun p => lst C N k0 p) (fun p a w => ChI C base a0 M ptrs st p a w) F ?_ ?_ (fun p hp c hc => (hT c hc (p c) (hp.1 c hc)).1) ?_ (fun p a w hp hr hi => hend p a w hp.1 hr hi) (sumC (fun c => (C c).R) 5) (fun _ => 0) a0 w ⟨fun c hc => (h0 c hc).1, h2⟩ ?_ ⟨rfl, rfl, fun _ _ _ => rfl, fun y hy => (by rw [hp0] at hy; cases hy), fun _ => 0, fun c hc h => ?_, fun c d hc _ _ h _ => ?_, hM.mono (fun x hx => ?_) hw⟩
  · intro p ⟨hp, hvp⟩ ⟨c0, hc0, hne⟩
    have h := List.all_eq_true.1 (List.all_eq_true.1 (List.all_eq_true.1 (List.all_eq_true.1 (List.all_eq_true.1 hchk (p 4) (List.mem_range.2 (hp 4 (by omega)))) (p 0) (List.mem_range.2 (hp 0 (by omega)))) (p 1) (List.mem_range.2 (hp 1 (by omega)))) (p 2) (List.mem_range.2 (hp 2 (by omega)))) (p 3) (List.mem_range.2 (hp 3 (by omega)))
    rw [Bool.or_eq_true, Bool.or_eq_true] at h
    have hmr : ∀ i, i ∈ Region.ready .any ops (lst C N k0 p) ↔ i ∈ rdy ns (lstF C N (pOf (p 0) (p 1) (p 2) (p 3) (p 4))) := fun i => by
      rw [mem_ready hN hk0, hns, lstF_congr (pOf_eq p)]
    rcases h with (h1 | h1) | h1
    · rw [← vld_congr (pOf_eq p), hvp] at h1; cases h1
    · exfalso
      simp only [Bool.and_eq_true, beq_iff_eq] at h1
      have : c0 = 0 ∨ c0 = 1 ∨ c0 = 2 ∨ c0 = 3 ∨ c0 = 4 := by omega
      rcases this with rfl | rfl | rfl | rfl | rfl
      · exact hne h1.1.1.1.1
      · exact hne h1.1.1.1.2
      · exact hne h1.1.1.2
      · exact hne h1.1.2
      · exact hne h1.2
    · rw [Bool.and_eq_true] at h1
      refine ⟨fun he => ?_, fun i hi => ?_⟩
      · have h6 : rdy ns (lstF C N (pOf (p 0) (p 1) (p 2) (p 3) (p 4))) ≠ [] := by simpa using h1.1
        cases h7 : rdy ns (lstF C N (pOf (p 0) (p 1) (p 2) (p 3) (p 4))) with
        | nil => exact h6 h7
        | cons i0 t =>
          have := (hmr i0).2 (by rw [h7]; simp)
          rw [he] at this
          cases this
      have h2 := List.all_eq_true.1 h1.2 i ((hmr i).1 hi)
      obtain ⟨x, hx, h3⟩ := List.any_eq_true.1 h2
      obtain ⟨y, hy, h4⟩ := List.any_eq_true.1 h3
      have hx5 := List.mem_range.1 hx
      rw [← pOf_eq p x hx5] at hy
      rw [Bool.and_eq_true] at h4
      have e : y.1 = i := by simpa using h4.1
      have hv : vld C (upC p x y.2) = true := by
        rw [vld_congr (q := upC (pOf (p 0) (p 1) (p 2) (p 3) (p 4)) x y.2)]
        · exact h4.2
        · intro c hc
          unfold upC
          rw [pOf_eq p c hc]
      refine ⟨x, y.2, hx5, by rw [← e]; exact hy, fun c hc => ?_, hv⟩
      by_cases e2 : c = x
      · subst e2; rw [show upC p c y.2 c = y.2 from if_pos rfl]; exact ((hT c hc (p c) (hp c hc)).2 y hy).1
      · rw [show upC p x y.2 c = p c from if_neg e2]; exact hp c hc
  · intro p c i k hp hc ht
    obtain ⟨h1, h2, h3, h4⟩ := (hT c hc (p c) (hp.1 c hc)).2 (i, k) ht
    exact ⟨h2, lst_set hc h3 h4⟩
  · intro p c i k a w hp hv hc ht hi
    by_cases e : c = 4
    · subst e
      exact hfive p i k a w hp.1 hv.2 ht hi
    · have hr := ((hT c hc (p c) (hp.1 c hc)).2 (i, k) ht)
      have hr2 := (hT c hc k hr.1).1
      exact chI_step hM hslot hst hptr hi (by omega) (by have := hr.2.1; simp only at this; omega) (hops c (by omega) (p c) (hp.1 c hc) (i, k) ht)
  · rw [sumC_congr (p := fun x => (C x).rank 0) (q := fun _ => 0) (m := 5) (fun c hc => (h0 c hc).2)]
    show 0 + 0 + 0 + 0 + 0 + 0 + _ = _
    omega
  · rw [h1 c hc] at h; cases h
  · rw [h1 c hc] at h; cases h
  · obtain ⟨c, hc, hm, _⟩ := hx
    rw [h1 c hc] at hm; cases hm
end
end Go.Proofs.Ytgbipfohcailnaa
