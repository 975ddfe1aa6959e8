/- Slices of slices of integers that the call itself made. -/
import Derived.Test.YtnpdlfnhpghkmaaAppend
namespace Go.Proofs.Ytnpdlfnhpghkmaa
set_option linter.unusedVariables false
set_option linter.unusedSimpArgs false
open Go.RowKit

/-- Every block of cells of type e is as it was. -/
def KeepT (e : TypeId) (w w' : World) : Prop := ∀ (g : Nat) (cur : Array Value), w.heap[g]? = some (.cells cur e (0, 0)) → w'.heap[g]? = some (.cells cur e (0, 0))
section
variable {e t : TypeId} {w w' w2 : World} {g : Nat} {cs : Array Value}
theorem KeepT.refl (e : TypeId) (w : World) : KeepT e w w := fun _ _ h => h
theorem KeepT.trans (h : KeepT e w w') (k : KeepT e w' w2) : KeepT e w w2 := fun g cur hg => k g cur (h g cur hg)
theorem KeepT.below (h : Below w.heap.size w w') : KeepT e w w' := fun g cur hg => (h.block g (Blk.lt (w := w) (t := e) (cs := cur) hg)).trans hg
theorem KeepT.alloc (w : World) (o : Obj) : KeepT e w (w.alloc o) := KeepT.below ((Below.refl _ _).alloc (Nat.le_refl _) o)
theorem KeepT.set_ (h : Blk w g t cs) (hne : t ≠ e) (i : Nat) (u : Value) : KeepT e w (w.setCell ⟨g, i, none⟩ u) := fun k cur hk => by
  refine (Below.heap_setCell w ⟨g, i, none⟩ u k ?_).trans hk
  rintro rfl
  unfold Blk at h
  rw [hk] at h
  injection h with h
  injection h with _ h
  exact hne h.symm
theorem KeepT.grown {row : Option Nat} (hg : w.grownBy w' row) (hr : ∀ k, row = some k → ∃ (t : TypeId) (cs : Array Value), w.heap[k]? = some (.cells cs t (0, 0)) ∧ t ≠ e) : KeepT e w w' := fun k cur hk => by
  refine (hg.block k (Blk.lt (w := w) (t := e) (cs := cur) hk) ?_).trans hk
  intro he
  obtain ⟨t, cs, h, hne⟩ := hr k he.symm
  rw [hk] at h
  injection h with h
  injection h with _ h
  exact hne h.symm
theorem KeepT.own {base size n : Nat} {v : Value} {xs : List Value} (h : KeepT e w w') (ho : w.ownsRow base e size v n xs) : w'.ownsRow base e size v n xs := by
  refine ⟨ho.1, ?_⟩
  rcases ho.2 with h2 | ⟨k, cap, cur, hv, hg, hh, r⟩
  · exact .inl h2
  · exact .inr ⟨k, cap, cur, hv, hg, h k cur hh, r⟩
theorem KeepT.ownI {base n c : Nat} {A : Option Addr} {xs : List Int} (h : KeepT 3 w w') (ho : OwnI w base A n c xs) : OwnI w' base A n c xs := ⟨h.own ho.own, ho.small⟩
end

/-- A slice of slices: its own row. -/
structure OwnV (w : World) (base : Nat) (A : Option Addr) (n c : Nat) (vs : List Value) : Prop where
  own : w.ownsRow base 23 1 (.slice A n c) n vs
  small : n ≤ 1000000
/-- The values are slices of the call's own, which hold the lists. -/
structure RowsI (w : World) (base : Nat) (vs : List Value) (xss : List (List Int)) : Prop where
  len : vs.length = xss.length
  row : ∀ i, i < vs.length → ∃ A n c, vs[i]? = some (.slice A n c) ∧ OwnI w base A n c (xss.getD i [])
section
variable {w w' : World} {base n c : Nat} {A : Option Addr} {vs : List Value} {xss : List (List Int)}
theorem OwnV.nil_ (w : World) (base : Nat) : OwnV w base none 0 0 [] := ⟨World.ownsRow_nil _ _ _ _, by omega⟩
theorem OwnV.len (h : OwnV w base A n c vs) : vs.length = n := by have := h.own.1; simpa using this
theorem OwnV.keep (h : OwnV w base A n c vs) (k : KeepT 23 w w') : OwnV w' base A n c vs := ⟨k.own h.own, h.small⟩
theorem OwnV.alloc (h : OwnV w base A n c vs) (o : Obj) : OwnV (w.alloc o) base A n c vs := h.keep (KeepT.alloc w o)
theorem OwnV.lt (h : OwnV w base A n c vs) : ∀ k, (Value.slice A n c).ownBlock = some k → base ≤ k ∧ k < w.heap.size := h.own.lt
theorem OwnV.block (h : OwnV w base A n c vs) : ∀ k, (Value.slice A n c).ownBlock = some k → ∃ (t : TypeId) (cs : Array Value), w.heap[k]? = some (.cells cs t (0, 0)) ∧ t ≠ 3 := by
  intro k hk
  rcases h.own.2 with ⟨hv, _⟩ | ⟨g, cap, cur, hv, _, hh, _⟩
  · rw [hv] at hk; cases hk
  · rw [hv] at hk
    injection hk with hk
    subst hk
    exact ⟨23, cur, hh, by decide⟩
theorem OwnV.cellAt (h : OwnV w base A n c vs) {j : Nat} (hj : j < n) : ∃ g, A = some ⟨g, 0, none⟩ ∧ w.cell? ⟨g, j, none⟩ = vs[j]? := by
  rcases h.own.2 with ⟨_, h0⟩ | ⟨g, cap, cur, hv, _, hh, _⟩
  · omega
  · have hA : A = some ⟨g, 0, none⟩ := by injection hv
    subst hA
    exact ⟨g, rfl, h.own.cellAt j (by omega)⟩
theorem RowsI.nil_ (w : World) (base : Nat) : RowsI w base [] [] := ⟨rfl, fun i hi => by simp at hi⟩
theorem RowsI.keep (h : RowsI w base vs xss) (k : KeepT 3 w w') : RowsI w' base vs xss := ⟨h.len, fun i hi => by
  obtain ⟨A, n, c, e, ho⟩ := h.row i hi
  exact ⟨A, n, c, e, k.ownI ho⟩⟩
theorem RowsI.snoc (h : RowsI w base vs xss) {B : Option Addr} {m d : Nat} {xs : List Int} (ho : OwnI w base B m d xs) : RowsI w base (vs ++ [.slice B m d]) (xss ++ [xs]) := by
  refine ⟨by simp [h.len], fun i hi => ?_⟩
  by_cases hlt : i < vs.length
  · obtain ⟨A, n, c, e, ho⟩ := h.row i hlt
    refine ⟨A, n, c, by rw [List.getElem?_append_left hlt]; exact e, ?_⟩
    have : (xss ++ [xs]).getD i [] = xss.getD i [] := by
      simp only [List.getD]
      rw [List.getElem?_append_left (by rw [← h.len]; exact hlt)]
    rw [this]
    exact ho
  · have hi' : i = vs.length := by simp at hi; omega
    subst hi'
    refine ⟨B, m, d, by simp, ?_⟩
    have : (xss ++ [xs]).getD vs.length [] = xs := by rw [h.len]; simp [List.getD]
    rw [this]
    exact ho
end

structure AppendedV (w : World) (base : Nat) (A : Option Addr) (n c : Nat) (zs : List Value) (A' : Option Addr) (c' : Nat) (w' : World) : Prop where
  own : OwnV w' base A' n c' zs
  grown : w.grownBy w' (Value.slice A n c).ownBlock
  lies : (Value.slice A' n c').ownBlock = (Value.slice A n c).ownBlock ∨ (Value.slice A' n c').ownBlock = some w.heap.size

section
variable {P : Program} (w : World)
theorem run_append_val (base : Nat) (t ty : TypeId) (i : TypeInfo) (ht : P.underlying t = some (.slice 23)) (hi : P.info? 23 = some i) (hz : i.zero = some (.slice none 0 0)) (hsize : i.size = 1) (hby : i.bytes = 24)
    (A : Option Addr) (n c : Nat) (vs : List Value) (hown : OwnV w base A n c vs) (ad : Addr) (d : Nat) (u : Value) (hu : w.cell? ad = some u) (h1 : u.oneCell' = true)
    (hs : n + 1 ≤ 1000000) (hbase : base ≤ w.heap.size) :
    ∃ A' c' w', (Builtin.append_ #[t, t] ty #[.slice A n c, .slice (some ad) 1 d]).run P w = .ok (.slice A' (n + 1) c') w' ∧ AppendedV w base A (n + 1) c (vs ++ [u]) A' c' w' := by
  have hcells : ∀ j v, [u][j]? = some v → w.cell? (ad.add j) = some v := by
    intro j v hv
    rcases j with _ | j
    · simp at hv
      subst hv
      have : ad.add 0 = ad := by unfold Addr.add; simp
      rw [this]
      exact hu
    · simp at hv
  obtain ⟨v', w', hrun, h2, h3, _, h5⟩ := run_append_own_at (P := P) w base t ty 23 i (.slice none 0 0) 1 24 ht hi hz hsize hby rfl (by omega) (.slice A n c) n _ hown.own ad 1 d [u]
    rfl hcells (by simpa using h1) (by simp only [maxLen]; omega) (by omega) hbase
  have hv : ∃ A' c', v' = .slice A' (n + 1) c' := by
    rcases h2.2 with ⟨rfl, h0⟩ | ⟨g, cap, cur, rfl, _⟩
    · omega
    · exact ⟨_, _, rfl⟩
  obtain ⟨A', c', rfl⟩ := hv
  refine ⟨A', c', w', hrun, ⟨h2, hs⟩, ?_, ?_⟩
  · rw [ownBlock_len A (n + 1) n c c]; exact h3
  · rw [ownBlock_len A (n + 1) n c c]; exact h5

theorem wpList_append_val {ops : Array Oper} {rest : List Oper} {o : Oper} {a : Act} {Q : Exit → Act → World → Prop} (hgd : o.guard = none) (s x : Operand) (t : TypeId)
    (ho : o.op = .call { callee := .builtin .append, args := #[s, x], argTypes := #[t, t] })
    (base : Nat) (i : TypeInfo) (ht : P.underlying t = some (.slice 23)) (hi : P.info? 23 = some i) (hz : i.zero = some (.slice none 0 0)) (hsize : i.size = 1) (hby : i.bytes = 24)
    (A : Option Addr) (n c : Nat) (vs : List Value) (hs : a.eval s = .slice A n c) (hown : OwnV w base A n c vs) (ad : Addr) (d : Nat) (u : Value) (hx : a.eval x = .slice (some ad) 1 d) (hu : w.cell? ad = some u) (h1 : u.oneCell' = true)
    (hsm : n + 1 ≤ 1000000) (hbase : base ≤ w.heap.size)
    (h : ∀ A' c' w', AppendedV w base A (n + 1) c (vs ++ [u]) A' c' w' → wpList P ops Q rest (a.put o.dst (.slice A' (n + 1) c')) w') : wpList P ops Q (o :: rest) a w :=
  wpList_plain hgd fun K hK => by
    obtain ⟨A', c', w', hrun, h2⟩ := run_append_val (P := P) w base t o.type i ht hi hz hsize hby A n c vs hown ad d u hu h1 hsm hbase
    unfold Oper.wp execOp
    simp only [ho, resolve, invoke, builtin, Sem.run_bind, Sem.run_pure, Result.andThen_ok, List.map_toArray, List.map_cons, List.map_nil, hs, hx, hrun]
    exact hK _ _ (h A' c' w' h2)
end
end Go.Proofs.Ytnpdlfnhpghkmaa
