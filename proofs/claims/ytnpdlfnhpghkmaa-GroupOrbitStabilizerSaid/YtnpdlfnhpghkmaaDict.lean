/- A map that the call made, whatever its elements: as a function from keys to elements, with the number of its entries. -/
import Derived.Maps.OwnSet
import Derived.WalkKit
import Derived.Deep.Draws
import Derived.Below
namespace Go.Proofs.Ytnpdlfnhpghkmaa
open Go.RowKit Go.Maps

/-- An element reads as itself. -/
def HR (v : Value) : Option (DataW Value × List MemPlace) := some (.held v, [])

/-- Block b is a map with s entries, whose element at a key x is f x. -/
structure Dict (P : Program) (k : TypeId) (w : World) (b s : Nat) (f : Value → Option Value) : Prop where
  own : ∃ D : DataW Value, w.ownsMap P k HR b s D ∧ Tidy D ∧ Maps.size D = s ∧ ∀ key kl, keyOf P k key = some kl →
    match f key with
    | none => Maps.has D kl = false
    | some v => Maps.has D kl = true ∧ ∀ z, D.atKey kl z = .held v

section
variable {P : Program} {k : TypeId} {w w' : World} {b s : Nat} {f : Value → Option Value}
theorem Dict.made (w : World) (P : Program) (k : TypeId) : Dict P k (w.alloc (.map #[] 0)) w.heap.size 0 fun _ => none :=
  ⟨⟨.map [], World.ownsMap_made _ _ _ _, tidy_empty, rfl, fun _ _ _ => rfl⟩⟩
theorem Dict.lt (h : Dict P k w b s f) : b < w.heap.size := by obtain ⟨D, hD, _⟩ := h.own; exact hD.lt
theorem Dict.kept {row : Option Nat} (h : Dict P k w b s f) (hg : w.grownBy w' row) (hne : some b ≠ row) : Dict P k w' b s f := by
  obtain ⟨D, hD, r⟩ := h.own
  exact ⟨⟨D, hD.kept hg hne, r⟩⟩
theorem Dict.below (h : Dict P k w b s f) (hb : Below w.heap.size w w') : Dict P k w' b s f := by
  have hlt := h.lt
  obtain ⟨D, ⟨es, clock, hbl, r1⟩, r⟩ := h.own
  exact ⟨⟨D, ⟨es, clock, (hb.block b hlt).trans hbl, r1⟩, r⟩⟩
theorem Dict.alloc (h : Dict P k w b s f) (o : Obj) : Dict P k (w.alloc o) b s f := h.below ((Below.refl _ _).alloc (Nat.le_refl _) o)
theorem Dict.setCell (h : Dict P k w b s f) {a : Addr} (ha : b ≠ a.block) (u : Value) : Dict P k (w.setCell a u) b s f := by
  obtain ⟨D, hD, r⟩ := h.own
  exact ⟨⟨D, hD.setCell ha u, r⟩⟩
theorem Dict.drewN (h : Dict P k w b s f) (n : Nat) : Dict P k (w.drewN n) b s f := by
  obtain ⟨D, hD, r⟩ := h.own
  exact ⟨⟨D, hD, r⟩⟩
theorem Dict.setRow (h : Dict P k w b s f) {g : Nat} (ha : b ≠ g) (cs : Array Value) : Dict P k (w.setRow g cs) b s f := by
  obtain ⟨D, ⟨es, clock, hbl, r1⟩, r⟩ := h.own
  exact ⟨⟨D, ⟨es, clock, (setRow_other w g b cs ha).trans hbl, r1⟩, r⟩⟩
/-- Another map was written. -/
theorem Dict.turned {c : Nat} (h : Dict P k w b s f) (hg : w.grownBy w' (some c)) (hne : b ≠ c) : Dict P k w' b s f := h.kept hg (by simpa using hne)

theorem HR_inv {v : Value} {d : DataW Value} {ps : List MemPlace} (h : HR v = some (d, ps)) : d = .held v := by
  simp [HR] at h
  exact h.1.symm

/-- v, ok := m[x] -/
theorem Dict.look_ok {t e : TypeId} (h : Dict P k w b s f) (K : Keyed P k) (ht : P.underlying t = some (.map k e)) {z : Value} (hz : (zeroValue e).run P w = .ok z w)
    {key : Value} {kl : Lit} (hkey : keyOf P k key = some kl) : (Instr.lookup t (.map (some b)) key true).run P w = .ok (.tuple #[(f key).getD z, .bool (f key).isSome]) w := by
  obtain ⟨D, hD, _, _, hf⟩ := h.own
  obtain ⟨v, ps, hrun, hv⟩ := hD.look_ok K ht hz (zd := .held z) (zp := []) rfl hkey
  have hv := HR_inv hv
  have := hf key kl hkey
  rw [hrun]
  cases hfk : f key with
  | none =>
    rw [hfk] at this
    have hv2 := Maps.atKey_of_not_has this (.held z)
    rw [hv2] at hv
    injection hv with hv
    simp [this, hv]
  | some u =>
    rw [hfk] at this
    rw [this.2] at hv
    injection hv with hv
    simp [this.1, hv]
/-- m[x] -/
theorem Dict.look {t e : TypeId} (h : Dict P k w b s f) (K : Keyed P k) (ht : P.underlying t = some (.map k e)) {z : Value} (hz : (zeroValue e).run P w = .ok z w)
    {key : Value} {kl : Lit} (hkey : keyOf P k key = some kl) : (Instr.lookup t (.map (some b)) key false).run P w = .ok ((f key).getD z) w := by
  obtain ⟨D, hD, _, _, hf⟩ := h.own
  obtain ⟨v, ps, hrun, hv⟩ := hD.lookup K ht hz (zd := .held z) (zp := []) rfl hkey
  have hv := HR_inv hv
  have := hf key kl hkey
  rw [hrun]
  cases hfk : f key with
  | none =>
    rw [hfk] at this
    have hv2 := Maps.atKey_of_not_has this (.held z)
    rw [hv2] at hv
    injection hv with hv
    simp [hv]
  | some u =>
    rw [hfk] at this
    rw [this.2] at hv
    injection hv with hv
    simp [hv]
/-- len(m) -/
theorem Dict.len {t e : TypeId} (h : Dict P k w b s f) (ht : P.underlying t = some (.map k e)) (ty : TypeId) : (Builtin.len_ #[t] ty #[.map (some b)]).run P w = .ok (.int .i64 s) w := by
  obtain ⟨D, hD, _, hs, _⟩ := h.own
  rw [hD.len ht ty, hs]
/-- m[x] = v -/
theorem Dict.store {t e : TypeId} (h : Dict P k w b s f) (K : Keyed P k) (ht : P.underlying t = some (.map k e)) (hn : s < maxLen)
    {key : Value} {kl : Lit} (hkey : keyOf P k key = some kl) (v : Value) {f' : Value → Option Value} (h1 : f' key = some v) (h2 : ∀ y l, keyOf P k y = some l → y ≠ key → f' y = f y) :
    ∃ w', (Instr.mapUpdate t (.map (some b)) key v).run P w = .ok () w' ∧ Dict P k w' b (if (f key).isSome then s else s + 1) f' ∧ w.grownBy w' (some b) ∧ w'.heap.size = w.heap.size := by
  obtain ⟨D, hD, hT, hs, hf⟩ := h.own
  obtain ⟨w1, hrun, hD1, hg⟩ := hD.store K ht hn hkey (val := v) (d := .held v) (ps := []) rfl
  have hIK : WideAt.IsKeyLit kl := K.key hkey
  have hT1 := hT.put hIK (.held v)
  have hsz : Maps.size (D.put kl (.held v)) = if (f key).isSome then s else s + 1 := by
    rw [Maps.size_put hT, hs]
    have := hf key kl hkey
    cases hfk : f key with
    | none => rw [hfk] at this; simp [this]
    | some u => rw [hfk] at this; simp [this.1]
  refine ⟨w1, hrun, ⟨⟨D.put kl (.held v), ?_, hT1, hsz, fun key' kl' hk' => ?_⟩⟩, hg.grown, ?_⟩
  · obtain ⟨es, clock, hb1, F1, hle, hDe⟩ := hD1
    refine ⟨es, clock, hb1, F1, ?_, hDe⟩
    rw [← hsz, hDe]
    simp [Maps.size, length_sorted]
  · by_cases e : key' = key
    · subst e
      rw [h1]
      have : kl' = kl := by rw [hkey] at hk'; injection hk' with hk'; exact hk'.symm
      subst this
      exact ⟨Maps.has_put_same hD.isMap hIK _, fun z => Maps.atKey_put_same hD.isMap hIK _ z⟩
    · rw [h2 key' kl' hk' e]
      have hne : kl' ≠ kl := fun h' => e (K.inj hk' (h' ▸ hkey))
      have := hf key' kl' hk'
      cases hfk : f key' with
      | none => rw [hfk] at this; simp only; rw [Maps.has_put_other hne]; exact this
      | some u =>
        rw [hfk] at this
        exact ⟨by rw [Maps.has_put_other hne]; exact this.1, fun z => by rw [Maps.atKey_put_other hne]; exact this.2 z⟩
  · obtain ⟨_, _, es', clock', _, rfl⟩ := hg
    simp [ChangeMaps.setBlock]
theorem Dict.congr {g : Value → Option Value} {s' : Nat} (h : Dict P k w b s f) (hs : s = s') (hfg : ∀ key kl, keyOf P k key = some kl → f key = g key) : Dict P k w b s' g := by
  subst hs
  obtain ⟨D, h1, h2, h3, h4⟩ := h.own
  exact ⟨⟨D, h1, h2, h3, fun key kl hk => by have := h4 key kl hk; rw [hfg key kl hk] at this; exact this⟩⟩
end

section
variable {P : Program} (w : World) {ops : Array Oper} {rest : List Oper} {o : Oper} {a : Act} {Q : Exit → Act → World → Prop}
theorem wpList_look_ok (hg : o.guard = none) (m x : Operand) (t : TypeId) (hop : o.op = Op.lookup t m x true) (k e : TypeId) (K : Keyed P k) (ht : P.underlying t = some (.map k e)) {z : Value} (hz : (zeroValue e).run P w = .ok z w)
    (b s : Nat) (f : Value → Option Value) (hm : a.eval m = .map (some b)) (h : Dict P k w b s f) (key : Value) (kl : Lit) (hx : a.eval x = key) (hkey : keyOf P k key = some kl)
    (hK : wpList P ops Q rest (a.put o.dst (.tuple #[(f key).getD z, .bool (f key).isSome])) w) : wpList P ops Q (o :: rest) a w := by
  refine wpList_plain hg fun K' hK' => ?_
  unfold Oper.wp
  simp [execOp, hop, hm, hx, h.look_ok K ht hz hkey, Result.andThen]
  exact hK' _ _ hK
theorem wpList_look (hg : o.guard = none) (m x : Operand) (t : TypeId) (hop : o.op = Op.lookup t m x false) (k e : TypeId) (K : Keyed P k) (ht : P.underlying t = some (.map k e)) {z : Value} (hz : (zeroValue e).run P w = .ok z w)
    (b s : Nat) (f : Value → Option Value) (hm : a.eval m = .map (some b)) (h : Dict P k w b s f) (key : Value) (kl : Lit) (hx : a.eval x = key) (hkey : keyOf P k key = some kl)
    (hK : wpList P ops Q rest (a.put o.dst ((f key).getD z)) w) : wpList P ops Q (o :: rest) a w := by
  refine wpList_plain hg fun K' hK' => ?_
  unfold Oper.wp
  simp [execOp, hop, hm, hx, h.look K ht hz hkey, Result.andThen]
  exact hK' _ _ hK
theorem wpList_mlen (hg : o.guard = none) (m : Operand) (t : TypeId) (hop : o.op = Op.call { callee := Callee.builtin Builtin.len, args := #[m], argTypes := #[t] })
    (k e : TypeId) (ht : P.underlying t = some (.map k e)) (b s : Nat) (f : Value → Option Value) (hm : a.eval m = .map (some b)) (h : Dict P k w b s f)
    (hK : wpList P ops Q rest (a.put o.dst (.int .i64 s)) w) : wpList P ops Q (o :: rest) a w := by
  refine wpList_plain hg fun K' hK' => ?_
  unfold Oper.wp
  simp [execOp, hop, resolve, invoke, builtin, hm, h.len ht o.type, Result.andThen]
  exact hK' _ _ hK
theorem wpList_mput (hg : o.guard = none) (m x v : Operand) (t : TypeId) (hop : o.op = Op.mapUpdate t m x v ∨ o.op = Op.insert t m x v) (k e : TypeId) (K : Keyed P k) (ht : P.underlying t = some (.map k e))
    (b s : Nat) (f : Value → Option Value) (hm : a.eval m = .map (some b)) (h : Dict P k w b s f) (hn : s < maxLen) (key val : Value) (kl : Lit) (hx : a.eval x = key) (hv : a.eval v = val) (hkey : keyOf P k key = some kl)
    (f' : Value → Option Value) (h1 : f' key = some val) (h2 : ∀ y l, keyOf P k y = some l → y ≠ key → f' y = f y)
    (hK : ∀ w', Dict P k w' b (if (f key).isSome then s else s + 1) f' → w.grownBy w' (some b) → w'.heap.size = w.heap.size → wpList P ops Q rest (a.put o.dst undef) w') : wpList P ops Q (o :: rest) a w := by
  refine wpList_plain hg fun K' hK' => ?_
  obtain ⟨w', hrun, r1, r2, r3⟩ := h.store K ht hn hkey val h1 h2
  unfold Oper.wp
  rcases hop with hop | hop
  all_goals
    simp [execOp, hop, hm, hx, hv, hrun, Result.andThen]
    exact hK' _ _ (hK w' r1 r2 r3)
end
end Go.Proofs.Ytnpdlfnhpghkmaa
