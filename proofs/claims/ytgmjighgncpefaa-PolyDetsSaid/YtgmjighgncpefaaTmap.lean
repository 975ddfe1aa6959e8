/- Maps from integers to integers as lists of terms; a range over one, whatever its order. -/
import Derived.Test.YtgmjighgncpefaaBase
import Derived.Test.YtgmjighgncpefaaSmall
import Derived.Maps.RangeWalk
import Derived.Maps.Keyed
namespace Go.Proofs.Ytgmjighgncpefaa
set_option linter.unusedVariables false
set_option linter.unusedSimpArgs false
open Go.RowKit Go.Maps

theorem keyI : Keyed Try.prog 3 := int_keyed Try.underlying3
theorem keyI_mk {x : Int} (h : (Lit.int .i64 x).wf = true) : keyOf Try.prog 3 (.int .i64 x) = some (.int .i64 x) := keyOf_int_mk Try.underlying3 h
theorem wfI {x : Int} (h : x.natAbs ≤ 4000000000000000000) : (Lit.int .i64 x).wf = true := by
  have h1 : IntKind.i64.min = -9223372036854775808 := by decide
  simp [Lit.wf, h1]
  omega
/-- The element at a key. -/
def lookT : List Tm → Int → Option Int
  | [], _ => none
  | (e, c) :: l, x => if e = x then some c else lookT l x
def lookV (o : List Tm) : Value → Option Value
  | .int .i64 x => (lookT o x).map (Value.int .i64)
  | _ => none
theorem lookT_none : ∀ {o : List Tm} {x : Int}, lookT o x = none ↔ ∀ p ∈ o, p.1 ≠ x
  | [], x => by simp [lookT]
  | (e, c) :: l, x => by
    unfold lookT
    by_cases h : e = x
    · rw [if_pos h]; simp [h]
    · rw [if_neg h, lookT_none]; simp [h]
theorem lookT_mem : ∀ {o : List Tm} {x c : Int}, lookT o x = some c → (x, c) ∈ o
  | [], x, c, h => by cases h
  | (e, d) :: l, x, c, h => by
    unfold lookT at h
    by_cases he : e = x
    · rw [if_pos he] at h
      injection h with h
      subst he; subst h
      exact List.mem_cons_self
    · rw [if_neg he] at h
      exact List.mem_cons_of_mem _ (lookT_mem h)
theorem lookT_of_mem : ∀ {o : List Tm} {x c : Int}, (o.map (·.1)).Nodup → (x, c) ∈ o → lookT o x = some c
  | (e, d) :: l, x, c, hn, h => by
    have hn' := List.nodup_cons.1 hn
    unfold lookT
    rcases List.mem_cons.1 h with h | h
    · injection h with h1 h2
      subst h1; subst h2
      rw [if_pos rfl]
    · have : e ≠ x := fun e' => hn'.1 (by rw [e']; exact List.mem_map.2 ⟨(x, c), h, rfl⟩)
      rw [if_neg this]
      exact lookT_of_mem hn'.2 h
theorem coefT_not {o : List Tm} {x : Int} (h : ∀ p ∈ o, p.1 ≠ x) : coefT o x = 0 := by
  induction o with
  | nil => rfl
  | cons p l ih =>
    show (if p.1 = x then p.2 else 0) + coefT l x = 0
    rw [if_neg (h p (by simp)), ih fun q hq => h q (by simp [hq])]
    rfl
theorem coefT_look : ∀ {o : List Tm} {x : Int}, (o.map (·.1)).Nodup → coefT o x = (lookT o x).getD 0
  | [], x, _ => rfl
  | (e, d) :: l, x, hn => by
    have hn' := List.nodup_cons.1 hn
    show (if e = x then d else 0) + coefT l x = _
    unfold lookT
    by_cases h : e = x
    · rw [if_pos h, if_pos h, coefT_not fun p hp e' => hn'.1 (by rw [h, ← e']; exact List.mem_map.2 ⟨p, hp, rfl⟩)]
      show d + 0 = d
      omega
    · rw [if_neg h, if_neg h, coefT_look hn'.2, Int.zero_add]
/-- v is put at x. -/
def putT : List Tm → Int → Int → List Tm
  | [], x, v => [(x, v)]
  | (e, c) :: l, x, v => if e = x then (x, v) :: l else (e, c) :: putT l x v
theorem putT_keys : ∀ (o : List Tm) (x v : Int), ∀ p ∈ putT o x v, p ∈ o ∨ p = (x, v)
  | [], x, v, p, h => .inr (by simpa [putT] using h)
  | (e, c) :: l, x, v, p, h => by
    unfold putT at h
    by_cases he : e = x
    · rw [if_pos he] at h
      rcases List.mem_cons.1 h with h | h
      · exact .inr h
      · exact .inl (List.mem_cons_of_mem _ h)
    · rw [if_neg he] at h
      rcases List.mem_cons.1 h with h | h
      · exact .inl (by rw [h]; exact List.mem_cons_self)
      · rcases putT_keys l x v p h with h | h
        · exact .inl (List.mem_cons_of_mem _ h)
        · exact .inr h
theorem putT_look : ∀ (o : List Tm) (x v y : Int), lookT (putT o x v) y = if y = x then some v else lookT o y
  | [], x, v, y => by
    show (if x = y then some v else none) = if y = x then some v else none
    by_cases h : x = y
    · rw [if_pos h, if_pos h.symm]
    · rw [if_neg h, if_neg fun e => h e.symm]
  | (e, c) :: l, x, v, y => by
    unfold putT
    by_cases he : e = x
    · rw [if_pos he]
      show (if x = y then some v else lookT l y) = if y = x then some v else if e = y then some c else lookT l y
      by_cases h : x = y
      · rw [if_pos h, if_pos h.symm]
      · rw [if_neg h, if_neg fun e' => h e'.symm, if_neg (by omega)]
    · rw [if_neg he]
      show (if e = y then some c else lookT (putT l x v) y) = if y = x then some v else if e = y then some c else lookT l y
      rw [putT_look l x v y]
      by_cases h : e = y
      · rw [if_pos h, if_pos h, if_neg (by omega)]
      · rw [if_neg h, if_neg h]
theorem putT_nodup : ∀ (o : List Tm) (x v : Int), (o.map (·.1)).Nodup → ((putT o x v).map (·.1)).Nodup
  | [], x, v, _ => by simp [putT]
  | (e, c) :: l, x, v, h => by
    have h' := List.nodup_cons.1 h
    unfold putT
    by_cases he : e = x
    · rw [if_pos he]
      subst he
      exact h
    · rw [if_neg he]
      refine List.nodup_cons.2 ⟨fun hm => ?_, putT_nodup l x v h'.2⟩
      obtain ⟨p, hp, e1⟩ := List.mem_map.1 hm
      rcases putT_keys l x v p hp with h1 | h1
      · exact h'.1 (by rw [← show p.1 = e from e1]; exact List.mem_map.2 ⟨p, h1, rfl⟩)
      · rw [h1] at e1
        exact he e1.symm
theorem putT_length : ∀ (o : List Tm) (x v : Int), (putT o x v).length = if (lookT o x).isSome then o.length else o.length + 1
  | [], x, v => rfl
  | (e, c) :: l, x, v => by
    unfold putT lookT
    by_cases he : e = x
    · rw [if_pos he, if_pos he]; rfl
    · rw [if_neg he, if_neg he]
      show (putT l x v).length + 1 = _
      rw [putT_length l x v]
      split <;> rfl
theorem coefT_put {o : List Tm} {x v : Int} (h : (o.map (·.1)).Nodup) (y : Int) : coefT (putT o x v) y = if y = x then v else coefT o y := by
  rw [coefT_look (putT_nodup o x v h), putT_look, coefT_look h]
  split <;> rfl
/-- Distinct keys from a small range are few. -/
theorem nodup_leT {o : List Tm} {E : Nat} (h : (o.map (·.1)).Nodup) (hk : ∀ p ∈ o, p.1.natAbs ≤ E) : o.length ≤ 2 * E + 1 := by
  have h1 : (o.map fun p : Tm => (p.1 + (E : Int)).toNat).Nodup := by
    rw [show (o.map fun p : Tm => (p.1 + (E : Int)).toNat) = (o.map (·.1)).map fun x : Int => (x + (E : Int)).toNat by rw [List.map_map]; rfl]
    unfold List.Nodup at h ⊢
    rw [List.pairwise_map]
    refine h.imp_of_mem fun {a b} ha hb hne e => hne ?_
    obtain ⟨p, hp, rfl⟩ := List.mem_map.1 ha
    obtain ⟨q, hq, rfl⟩ := List.mem_map.1 hb
    have := hk p hp
    have := hk q hq
    have e : (p.1 + (E : Int)).toNat = (q.1 + (E : Int)).toNat := e
    show p.1 = q.1
    omega
  have h2 := nodup_length_le (2 * E + 1) _ h1 fun x hx => by
    obtain ⟨p, hp, rfl⟩ := List.mem_map.1 hx
    have := hk p hp
    show (p.1 + (E : Int)).toNat < 2 * E + 1
    omega
  simpa using h2

/-- Block b is a map with just the entries o. -/
structure MapI (w : World) (b : Nat) (o : List Tm) : Prop where
  dict : Dict Try.prog 3 w b o.length (lookV o)
  nodup : (o.map (·.1)).Nodup
section
variable {w w' : World} {b : Nat} {o : List Tm}
theorem MapI.lt (h : MapI w b o) : b < w.heap.size := h.dict.lt
theorem MapI.below (h : MapI w b o) (hb : Below w.heap.size w w') : MapI w' b o := ⟨h.dict.below hb, h.nodup⟩
theorem MapI.kept {row : Option Nat} (h : MapI w b o) (hg : w.grownBy w' row) (hne : some b ≠ row) : MapI w' b o := ⟨h.dict.kept hg hne, h.nodup⟩
theorem MapI.made (w : World) : MapI (w.alloc (.map #[] 0)) w.heap.size [] := ⟨(Dict.made w _ _).congr rfl fun key kl _ => by unfold lookV; split <;> rfl, List.nodup_nil⟩
theorem MapI.look (h : MapI w b o) {t : TypeId} (ht : Try.prog.underlying t = some (.map 3 3)) {x : Int} (hx : (Lit.int .i64 x).wf = true) :
    (Instr.lookup t (.map (some b)) (.int .i64 x) false).run Try.prog w = .ok (.int .i64 (coefT o x)) w := by
  rw [h.dict.look keyI ht (z := .int .i64 0) (by kernel_rfl) (keyI_mk hx), coefT_look h.nodup]
  have e : lookV o (.int .i64 x) = (lookT o x).map (Value.int .i64) := rfl
  rw [e]
  cases lookT o x <;> rfl
theorem MapI.store (h : MapI w b o) {t : TypeId} (ht : Try.prog.underlying t = some (.map 3 3)) {x v : Int} (hx : (Lit.int .i64 x).wf = true) (hn : o.length < 1000000) :
    ∃ w', (Instr.mapUpdate t (.map (some b)) (.int .i64 x) (.int .i64 v)).run Try.prog w = .ok () w' ∧ MapI w' b (putT o x v) ∧ w.grownBy w' (some b) ∧ w'.heap.size = w.heap.size := by
  obtain ⟨w', h1, h2, h3, h4⟩ := h.dict.store keyI ht (by unfold maxLen; omega) (keyI_mk hx) (.int .i64 v) (f' := lookV (putT o x v)) (by
    show ((lookT (putT o x v) x).map _) = _
    rw [putT_look, if_pos rfl]; rfl) (fun y l hy hne => by
    obtain ⟨z, rfl, _, _⟩ := keyOf_int_inv Try.underlying3 hy
    show ((lookT (putT o x v) z).map _) = (lookT o z).map _
    rw [putT_look, if_neg fun e => hne (by rw [e])])
  refine ⟨w', h1, ⟨h2.congr ?_ fun _ _ _ => rfl, putT_nodup o x v h.nodup⟩, h3, h4⟩
  rw [putT_length]
  show (if ((lookT o x).map (Value.int .i64)).isSome = true then _ else _) = _
  rw [Option.isSome_map]
end

/-! ### a range -/
/-- A range over the map with entries T: done and rem(aining). -/
structure RangeI (w : World) (b r : Nat) (T done rem : List Tm) (cnt : Nat) : Prop where
  nodup : (T.map (·.1)).Nodup
  perm : (done ++ rem).Perm T
  run : ∃ (n : Nat) (D : DataW Value) (left : Lit → Bool), w.ranges Try.prog 3 HR b r n D left cnt ∧ (∀ p ∈ T, ∀ z, D.atKey (.int .i64 p.1) z = .held (.int .i64 p.2)) ∧ (∀ x : Int, (Lit.int .i64 x).wf = true → (left (.int .i64 x) = true ↔ ∃ c, (x, c) ∈ rem)) ∧ ∀ p ∈ T, (Lit.int .i64 p.1).wf = true
section
variable {w w' : World} {b r cnt : Nat} {T done rem : List Tm}
theorem RangeI.kept {row : Option Nat} (h : RangeI w b r T done rem cnt) (hg : w.grownBy w' row) (hb : some b ≠ row) (hr : some r ≠ row) : RangeI w' b r T done rem cnt := by
  obtain ⟨n, D, left, h1, h2⟩ := h.run
  exact ⟨h.nodup, h.perm, n, D, left, h1.kept hg hb hr, h2⟩
theorem RangeI.left_eq (h : RangeI w b r T done rem cnt) : w.rangeLeft b r = cnt := by
  obtain ⟨n, D, left, h1, _⟩ := h.run
  exact h1.left_eq
theorem RangeI.lt (h : RangeI w b r T done rem cnt) : r < w.heap.size := by
  obtain ⟨n, D, left, h1, _⟩ := h.run
  exact h1.lt
theorem RangeI.mem (h : RangeI w b r T done rem cnt) : ∀ p ∈ done, p ∈ T := fun p hp => h.perm.subset (List.mem_append_left _ hp)
end
section
variable (w : World) {ops : Array Oper} {rest : List Oper} {o : Oper} {a : Act} {Q : Exit → Act → World → Prop}
theorem wpList_rangeI (hg : o.guard = none) (m : Operand) (t : TypeId) (hop : o.op = Op.range t m) (ht : Try.prog.underlying t = some (.map 3 3)) (b : Nat) (T : List Tm) (hm : a.eval m = .map (some b)) (h : MapI w b T) (hwf : ∀ p ∈ T, (Lit.int .i64 p.1).wf = true)
    (hK : ∀ w' cnt, RangeI w' b w.heap.size T [] T cnt → w.grownBy w' none → w'.heap.size = w.heap.size + 1 → wpList Try.prog ops Q rest (a.put o.dst (.pointer (some ⟨w.heap.size, 0, none⟩))) w') :
    wpList Try.prog ops Q (o :: rest) a w := by
  obtain ⟨D, hD, hT, hs, hf⟩ := h.dict.own
  refine wpList_range_own w hg m t hop 3 3 keyI ht HR b _ D hm hD fun w' hr hgr hsz => hK w' _ ⟨h.nodup, by simp, _, D, Maps.has D, hr, fun p hp z => ?_, fun x hx => ?_, hwf⟩ hgr hsz
  · have := hf (.int .i64 p.1) _ (keyI_mk (hwf p hp))
    have e : lookV T (.int .i64 p.1) = some (.int .i64 p.2) := by
      show (lookT T p.1).map _ = _
      rw [lookT_of_mem h.nodup (show (p.1, p.2) ∈ T from hp)]; rfl
    rw [e] at this
    exact this.2 z
  · have := hf (.int .i64 x) _ (keyI_mk hx)
    have e : lookV T (.int .i64 x) = (lookT T x).map (Value.int .i64) := rfl
    rw [e] at this
    cases hl : lookT T x with
    | none =>
      rw [hl] at this
      have this : Maps.has D (.int .i64 x) = false := this
      rw [this]
      have h0 := lookT_none.1 hl
      exact ⟨fun h => (by cases h), fun ⟨c, hc⟩ => absurd rfl (h0 _ hc)⟩
    | some c =>
      rw [hl] at this
      have this : Maps.has D (.int .i64 x) = true ∧ _ := this
      exact ⟨fun _ => ⟨c, lookT_mem hl⟩, fun _ => this.1⟩
theorem wpList_nextI (hg : o.guard = none) (it : Operand) (hop : o.op = Op.next it false) (b r : Nat) (T done rem : List Tm) (cnt : Nat) (hit : a.eval it = .pointer (some ⟨r, 0, none⟩)) (h : RangeI w b r T done rem cnt)
    (hDone : rem = [] → wpList Try.prog ops Q rest (a.put o.dst (.tuple #[.bool false])) w)
    (hMore : ∀ (x c : Int) (rem' : List Tm) (w' : World) (cnt' : Nat), rem.Perm ((x, c) :: rem') → RangeI w' b r T (done ++ [(x, c)]) rem' cnt' → cnt' < cnt → w.grownBy w' (some r) → w'.heap.size = w.heap.size →
      (Instr.entry (.pointer (some ⟨r, 0, none⟩))).run Try.prog w' = .ok (.tuple #[.int .i64 x, .int .i64 c]) w' → wpList Try.prog ops Q rest (a.put o.dst (.tuple #[.bool true, .int .i64 x, .int .i64 c])) w') :
    wpList Try.prog ops Q (o :: rest) a w := by
  obtain ⟨n, D, left, h1, h2, h3, h4⟩ := h.run
  refine wpList_next_ranges w hg it hop 3 keyI HR (fun v : Value => v) (fun v : Value => v) (fun key kl _ => ⟨key, rfl⟩) (fun v y _ => ⟨v, rfl⟩) b r n D left cnt hit h1 (fun _ hl => hDone ?_) ?_
  · match rem, h3, h.perm with
    | [], _, _ => rfl
    | (x, c) :: l, h3, hp =>
      have hx := h4 _ (hp.subset (List.mem_append_right _ List.mem_cons_self))
      have := (h3 x hx).2 ⟨c, List.mem_cons_self⟩
      rw [hl] at this
      cases this
  · intro key v kl y w' cnt' hkey hlk hv hat hrg hlt hgr hsz hen
    obtain ⟨x, rfl, rfl, hx⟩ := keyOf_int_inv Try.underlying3 hkey
    obtain ⟨c, hc⟩ := (h3 x hx).1 hlk
    have hmT : (x, c) ∈ T := h.perm.subset (List.mem_append_right _ hc)
    have hvy := HR_inv (v := v) (d := y.1) (ps := y.2) hv
    have e1 := h2 _ hmT (.held v)
    rw [hat, hvy] at e1
    injection e1 with e1
    subst e1
    obtain ⟨l1, l2, hl⟩ := List.append_of_mem hc
    have hp2 : rem.Perm ((x, c) :: (l1 ++ l2)) := by rw [hl]; exact List.perm_middle
    have hperm : (done ++ [(x, c)] ++ (l1 ++ l2)).Perm T := by
      refine List.Perm.trans ?_ h.perm
      rw [List.append_assoc]
      exact List.Perm.append_left done hp2.symm
    have hnd : ((done ++ [(x, c)] ++ (l1 ++ l2)).map (·.1)).Nodup := (hperm.map (·.1)).nodup_iff.2 h.nodup
    refine hMore x c (l1 ++ l2) w' cnt' hp2 ⟨h.nodup, hperm, n, D, _, hrg, h2, fun z hz => ?_, h4⟩ hlt hgr hsz hen
    show (left (.int .i64 z) && !(Lit.int .i64 z).sameKey (.int .i64 x)) = true ↔ _
    have hnx : ∀ d, (x, d) ∉ l1 ++ l2 := fun d hd => by
      rw [List.map_append, List.map_append] at hnd
      have h5 := (List.nodup_append.1 hnd).2.2 x (List.mem_append_right _ (by simp)) x (List.mem_map.2 ⟨(x, d), hd, rfl⟩)
      exact h5 rfl
    by_cases e : z = x
    · subst e
      have : (Lit.int .i64 z).sameKey (.int .i64 z) = true := by simp [Lit.sameKey]
      rw [this]
      simp only [Bool.not_true, Bool.and_false]
      exact ⟨fun h => (by cases h), fun ⟨d, hd⟩ => absurd hd (hnx d)⟩
    · have : (Lit.int .i64 z).sameKey (.int .i64 x) = false := by simp [Lit.sameKey, e]
      rw [this]
      simp only [Bool.not_false, Bool.and_true]
      rw [h3 z hz]
      constructor
      · rintro ⟨d, hd⟩
        refine ⟨d, ?_⟩
        rcases List.mem_cons.1 (hp2.subset hd) with h | h
        · injection h with h _; exact absurd h e
        · exact h
      · rintro ⟨d, hd⟩
        exact ⟨d, hp2.symm.subset (List.mem_cons_of_mem _ hd)⟩
end
end Go.Proofs.Ytgmjighgncpefaa
