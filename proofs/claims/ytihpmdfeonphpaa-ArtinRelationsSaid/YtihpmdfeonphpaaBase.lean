/- The mathematics, in one text. -/
import Derived.Below
import Derived.Laws.OwnMore
import Derived.Deep.Draws
import Derived.WalkKit
import Derived.Maps.AppendAt
import Derived.Deep.AppendLies
import Derived.Deep.RegionLaw
import Derived.RegionTactic
import Derived.OwnWalk
import Derived.Maps.OwnSet
import Derived.Deep.RegionHeld3
import Derived.Deep.MidRow
import Derived.Great.BuildSlice
import Derived.Laws.EntriesVeiled
import Derived.ProofKit
import Derived.SizedLaws
/- Words for slices of integers in memory. -/
namespace Go.Proofs.Ytihpmdfeonphpaa
set_option linter.unusedVariables false
set_option linter.unusedSimpArgs false
open Go.RowKit

theorem block_of_add (a : Addr) (n : Nat) : (a.add n).block = a.block := by unfold Addr.add; split <;> rfl
theorem add_of_add (a : Addr) (i j : Nat) : (a.add i).add j = a.add (i + j) := by
  unfold Addr.add
  by_cases hi : i = 0 <;> by_cases hj : j = 0 <;> simp [hi, hj, Nat.add_assoc]

theorem hide {p : Prop} (h : p) : Hid p := h
/-- The slice value '.slice A n c' holds the integers xs. -/
structure IL (w : World) (A : Option Addr) (n : Nat) (xs : List Int) : Prop where
  len : xs.length = n
  small : n ≤ 17592186044416
  mem : 0 < n → ∃ ad, A = some ad ∧ ad.block < w.heap.size ∧ ∀ j, j < n → w.cell? (ad.add j) = some (.int .i64 (xs.getD j 0))

section
variable {w w' : World} {A : Option Addr} {n : Nat} {xs : List Int}
theorem IL.at_ {k : Nat} (h : IL w A n xs) (hk : k < n) : ∃ ad, A = some ad ∧ w.cell? (ad.add k) = some (.int .i64 (xs.getD k 0)) := by
  obtain ⟨ad, e, _, hc⟩ := h.mem (by omega)
  exact ⟨ad, e, hc k hk⟩
theorem IL.below (h : IL w A n xs) (hb : Below w.heap.size w w') : IL w' A n xs :=
  ⟨h.len, h.small, fun hn => by
    obtain ⟨ad, e, hl, hc⟩ := h.mem hn
    exact ⟨ad, e, Nat.lt_of_lt_of_le hl hb.size, fun j hj => (hb.cell (p := ad.add j) (by rw [block_of_add]; exact hl)).trans (hc j hj)⟩⟩
theorem IL.nil_ (w : World) : IL w none 0 [] := ⟨rfl, by omega, fun h => absurd h (by omega)⟩
theorem below_drewN {B : Nat} {a w : World} (h : Below B a w) (n : Nat) : Below B a (w.drewN n) := ⟨h.os, h.tape, h.output, h.size, h.block⟩
end

/-- Block g is just the cells cs of element type t, none frozen. -/
def Blk (w : World) (g : Nat) (t : TypeId) (cs : Array Value) : Prop := w.heap[g]? = some (.cells cs t (0, 0))
section
variable {w w' : World} {g : Nat} {t : TypeId} {cs : Array Value}
theorem Blk.lt (h : Blk w g t cs) : g < w.heap.size := by
  rcases Nat.lt_or_ge g w.heap.size with hlt | hge
  · exact hlt
  · unfold Blk at h; rw [Array.getElem?_eq_none hge] at h; cases h
theorem Blk.cell (h : Blk w g t cs) (i : Nat) : w.cell? ⟨g, i, none⟩ = cs[i]? := cell_of_row w g i cs t (0, 0) h
theorem Blk.frozen (h : Blk w g t cs) (i : Nat) : w.frozen? ⟨g, i, none⟩ = false := by
  unfold Blk at h
  simp [World.frozen?, h]
theorem Blk.new (w : World) (t : TypeId) (cs : Array Value) : Blk (w.alloc (.cells cs t)) w.heap.size t cs := heap_alloc_new w _
theorem Blk.drewN (h : Blk w g t cs) (n : Nat) : Blk (w.drewN n) g t cs := h
theorem Blk.alloc (h : Blk w g t cs) (o : Obj) : Blk (w.alloc o) g t cs := (Below.heap_alloc w o g h.lt).trans h
theorem Blk.set_ (h : Blk w g t cs) (i : Nat) (u : Value) : Blk (w.setCell ⟨g, i, none⟩ u) g t (cs.setIfInBounds i u) := by
  unfold Blk at h ⊢
  simp [World.setCell, Array.getElem?_modify, h]
theorem Blk.far (h : Blk w g t cs) {p : Addr} (hp : g ≠ p.block) (u : Value) : Blk (w.setCell p u) g t cs := (Below.heap_setCell w p u g hp).trans h
theorem Blk.below {B : Nat} (h : Blk w g t cs) (hb : Below B w w') (hg : g < B) : Blk w' g t cs := (hb.block g hg).trans h
theorem Blk.grown {row : Option Nat} (h : Blk w g t cs) (hb : w.grownBy w' row) (hg : some g ≠ row) : Blk w' g t cs := (hb.block g h.lt hg).trans h
end

/-- The slice '.slice A n c' owns a row from block 'base' on, which holds the integers xs. -/
structure OwnI (w : World) (base : Nat) (A : Option Addr) (n c : Nat) (xs : List Int) : Prop where
  own : w.ownsRow base 3 1 (.slice A n c) n (xs.map (Value.int .i64))
  small : n ≤ 17592186044416
section
variable {w w' : World} {base : Nat} {A : Option Addr} {n c : Nat} {xs : List Int}
theorem OwnI.len (h : OwnI w base A n c xs) : xs.length = n := by have := h.own.1; simpa using this
theorem OwnI.form (h : OwnI w base A n c xs) (hn : 0 < n) : ∃ g, A = some ⟨g, 0, none⟩ ∧ base ≤ g ∧ g < w.heap.size := by
  rcases h.own.2 with ⟨_, h0⟩ | ⟨g, cap, cur, hv, hg, hh, _⟩
  · omega
  · simp only [Value.slice.injEq] at hv
    exact ⟨g, hv.1, hg, Blk.lt (w := w) (t := 3) (cs := cur) hh⟩
theorem OwnI.il (h : OwnI w base A n c xs) : IL w A n xs := by
  refine ⟨h.len, h.small, fun hn => ?_⟩
  obtain ⟨g, rfl, _, hlt⟩ := h.form hn
  refine ⟨⟨g, 0, none⟩, rfl, hlt, fun j hj => ?_⟩
  have e : (⟨g, 0, none⟩ : Addr).add j = ⟨g, j, none⟩ := by unfold Addr.add; split <;> simp_all
  have hl := h.len
  rw [e, h.own.cellAt j (by omega), List.getElem?_map, List.getElem?_eq_getElem (by omega)]
  simp [List.getD, List.getElem?_eq_getElem (show j < xs.length by omega)]
theorem OwnI.below (h : OwnI w base A n c xs) (hb : Below w.heap.size w w') : OwnI w' base A n c xs := by
  refine ⟨⟨h.own.1, ?_⟩, h.small⟩
  rcases h.own.2 with h2 | ⟨g, cap, cur, hv, hg, hh, r⟩
  · exact .inl h2
  · exact .inr ⟨g, cap, cur, hv, hg, (hb.block g (Blk.lt (w := w) (t := 3) (cs := cur) hh)).trans hh, r⟩
theorem OwnI.mono {b' : Nat} (h : OwnI w base A n c xs) (hb : b' ≤ base) : OwnI w b' A n c xs := by
  refine ⟨⟨h.own.1, ?_⟩, h.small⟩
  rcases h.own.2 with h2 | ⟨g, cap, cur, hv, hg, r⟩
  · exact .inl h2
  · exact .inr ⟨g, cap, cur, hv, by omega, r⟩
/-- A made slice. -/
theorem OwnI.zero {z : Array Value} (h : w.ownsRow base 3 1 (.slice A n c) n (madeCells #[Value.int .i64 0] (n * 1)).toList) (hs : n ≤ 17592186044416) : OwnI w base A n c (List.replicate n 0) := by
  refine ⟨?_, hs⟩
  rw [toList_madeCells_one, Nat.mul_one] at h
  simpa using h
theorem OwnI.set_ {g : Nat} (h : OwnI w base (some ⟨g, 0, none⟩) n c xs) (j : Nat) (u : Int) : OwnI (w.setCell ⟨g, j, none⟩ (.int .i64 u)) base (some ⟨g, 0, none⟩) n c (xs.set j u) := by
  refine ⟨?_, h.small⟩
  rw [List.map_set]
  exact (h.own.stored j _).1
theorem OwnI.cell {g : Nat} (h : OwnI w base (some ⟨g, 0, none⟩) n c xs) {j : Nat} (hj : j < n) : w.cell? ⟨g, j, none⟩ = some (.int .i64 (xs.getD j 0)) := by
  have hl := h.len
  rw [h.own.cellAt j (by omega), List.getElem?_map, List.getElem?_eq_getElem (by omega)]
  simp [List.getD, List.getElem?_eq_getElem (show j < xs.length by omega)]
theorem OwnI.frozen {g : Nat} (h : OwnI w base (some ⟨g, 0, none⟩) n c xs) (j : Nat) : w.frozen? ⟨g, j, none⟩ = false := h.own.frozenAt j
end

/-- Whether two lists are equal. -/
def eqB (xs ys : List Int) : Bool := decide (xs = ys)
attribute [irreducible] eqB
theorem eqB_true {xs ys : List Int} (h : xs = ys) : eqB xs ys = true := by unfold eqB; simp [h]
theorem eqB_false {xs ys : List Int} (h : xs ≠ ys) : eqB xs ys = false := by unfold eqB; simp [h]
theorem eqB_iff {xs ys : List Int} : eqB xs ys = true ↔ xs = ys := by unfold eqB; simp
end Go.Proofs.Ytihpmdfeonphpaa
/- append on slices of integers that the call itself made. -/
namespace Go.Proofs.Ytihpmdfeonphpaa
set_option linter.unusedVariables false
set_option linter.unusedSimpArgs false
open Go.RowKit

/-- What append leaves: the new slice, what turned, and where the new slice lies. -/
structure Appended (w : World) (base : Nat) (A : Option Addr) (n c : Nat) (zs : List Int) (A' : Option Addr) (c' : Nat) (w' : World) : Prop where
  own : OwnI w' base A' n c' zs
  grown : w.grownBy w' (Value.slice A n c).ownBlock
  lies : (Value.slice A' n c').ownBlock = (Value.slice A n c).ownBlock ∨ (Value.slice A' n c').ownBlock = some w.heap.size

theorem ownBlock_len (A : Option Addr) (n m c d : Nat) : (Value.slice A n c).ownBlock = (Value.slice A m d).ownBlock := by cases A <;> rfl

section
variable {P : Program} (w : World)

theorem run_append_int (base : Nat) (t ty : TypeId) (i : TypeInfo) (ht : P.underlying t = some (.slice 3)) (hi : P.info? 3 = some i) (hz : i.zero = some (.int .i64 0)) (hsize : i.size = 1) (hby : i.bytes = 8)
    (A : Option Addr) (n c : Nat) (xs : List Int) (hown : OwnI w base A n c xs) (B : Option Addr) (m d : Nat) (ys : List Int) (hb : IL w B m ys)
    (hs : n + m ≤ 17592186044416) (hbase : base ≤ w.heap.size) :
    ∃ A' c' w', (Builtin.append_ #[t, t] ty #[.slice A n c, .slice B m d]).run P w = .ok (.slice A' (n + m) c') w' ∧ Appended w base A (n + m) c (xs ++ ys) A' c' w' := by
  rcases B with _ | ad
  · have hm : m = 0 := by
      rcases Nat.eq_zero_or_pos m with h0 | h0
      · exact h0
      · obtain ⟨ad, h, _⟩ := hb.mem h0
        cases h
    subst hm
    obtain rfl : ys = [] := List.eq_nil_of_length_eq_zero hb.len
    refine ⟨A, c, w, ?_, ?_⟩
    · rcases hown.own.2 with ⟨hv, h0⟩ | ⟨g, cap, cur, hv, _, _, hnc, _⟩
      · simp only [Value.slice.injEq] at hv
        obtain ⟨rfl, rfl, rfl⟩ := hv
        simp [Builtin.append_, run_underlying ht, sizeOf, typeInfo, hi, Builtin.lenOf, Builtin.firstCells]
      · simp only [Value.slice.injEq, true_and] at hv
        obtain ⟨rfl, rfl⟩ := hv
        simp [Builtin.append_, run_underlying ht, sizeOf, typeInfo, hi, Builtin.lenOf, Builtin.firstCells, hnc, storeCells]
    · exact ⟨by simpa using hown, World.grownBy.refl w _, .inl rfl⟩
  · have hl := hb.len
    have hcells : ∀ j u, (ys.map (Value.int .i64))[j]? = some u → w.cell? (ad.add j) = some u := by
      intro j u hu
      have hj : j < m := by
        have := (List.getElem?_eq_some_iff.1 hu).1
        simpa [hl] using this
      obtain ⟨ad', h, hc⟩ := hb.at_ hj
      injection h with h
      subst h
      rw [hc, ← hu, List.getElem?_map, List.getElem?_eq_getElem (by omega)]
      simp [List.getD, List.getElem?_eq_getElem (show j < ys.length by omega)]
    obtain ⟨v', w', hrun, h2, h3, _, h5⟩ := run_append_own_at (P := P) w base t ty 3 i (.int .i64 0) 1 8 ht hi hz hsize hby rfl (by omega) (.slice A n c) n _ hown.own ad m d (ys.map (Value.int .i64))
      (by simp [hl]) hcells (ints_oneCell _ _) (by simp only [maxLen]; omega) (by omega) hbase
    have hv : ∃ A' c', v' = .slice A' (n + m) c' := by
      rcases h2.2 with ⟨rfl, h0⟩ | ⟨g, cap, cur, rfl, _⟩
      · exact ⟨none, 0, by rw [h0]⟩
      · exact ⟨_, _, rfl⟩
    obtain ⟨A', c', rfl⟩ := hv
    refine ⟨A', c', w', hrun, ⟨?_, hs⟩, ?_, ?_⟩
    · rw [List.map_append]; exact h2
    · rw [ownBlock_len A (n + m) n c c]; exact h3
    · rw [ownBlock_len A (n + m) n c c]; exact h5

theorem wp_append_int {o : Oper} {a : Act} {K : Act → World → Prop} {Q : Exit → Act → World → Prop} (s x : Operand) (t : TypeId)
    (ho : o.op = .call { callee := .builtin .append, args := #[s, x], argTypes := #[t, t] })
    (base : Nat) (i : TypeInfo) (ht : P.underlying t = some (.slice 3)) (hi : P.info? 3 = some i) (hz : i.zero = some (.int .i64 0)) (hsize : i.size = 1) (hby : i.bytes = 8)
    (A : Option Addr) (n c : Nat) (xs : List Int) (hs : a.eval s = .slice A n c) (hown : OwnI w base A n c xs) (B : Option Addr) (m d : Nat) (ys : List Int) (hx : a.eval x = .slice B m d) (hb : IL w B m ys)
    (hsm : n + m ≤ 17592186044416) (hbase : base ≤ w.heap.size)
    (h : ∀ A' c' w', Appended w base A (n + m) c (xs ++ ys) A' c' w' → K (a.put o.dst (.slice A' (n + m) c')) w') : o.wp P a w K Q := by
  obtain ⟨A', c', w', hrun, h2⟩ := run_append_int (P := P) w base t o.type i ht hi hz hsize hby A n c xs hown B m d ys hb hsm hbase
  unfold Oper.wp execOp
  simp only [ho, resolve, invoke, builtin, Sem.run_bind, Sem.run_pure, Result.andThen_ok, List.map_toArray, List.map_cons, List.map_nil, hs, hx, hrun]
  exact h A' c' w' h2

theorem wpList_append_int {ops : Array Oper} {rest : List Oper} {o : Oper} {a : Act} {Q : Exit → Act → World → Prop} (hgd : o.guard = none) (s x : Operand) (t : TypeId)
    (ho : o.op = .call { callee := .builtin .append, args := #[s, x], argTypes := #[t, t] })
    (base : Nat) (i : TypeInfo) (ht : P.underlying t = some (.slice 3)) (hi : P.info? 3 = some i) (hz : i.zero = some (.int .i64 0)) (hsize : i.size = 1) (hby : i.bytes = 8)
    (A : Option Addr) (n c : Nat) (xs : List Int) (hs : a.eval s = .slice A n c) (hown : OwnI w base A n c xs) (B : Option Addr) (m d : Nat) (ys : List Int) (hx : a.eval x = .slice B m d) (hb : IL w B m ys)
    (hsm : n + m ≤ 17592186044416) (hbase : base ≤ w.heap.size)
    (h : ∀ A' c' w', Appended w base A (n + m) c (xs ++ ys) A' c' w' → wpList P ops Q rest (a.put o.dst (.slice A' (n + m) c')) w') : wpList P ops Q (o :: rest) a w :=
  wpList_plain hgd fun _ hK => wp_append_int w s x t ho base i ht hi hz hsize hby A n c xs hs hown B m d ys hx hb hsm hbase fun A' c' w' h2 => hK _ _ (h A' c' w' h2)

theorem step_append_int {ops : Array Oper} {o : Oper} {a : Act} {K : Act → World → Prop} {Q : Exit → Act → World → Prop} {E : Prop} (hgd : o.guard = none) (s x : Operand) (t : TypeId)
    (ho : o.op = .call { callee := .builtin .append, args := #[s, x], argTypes := #[t, t] })
    (base : Nat) (i : TypeInfo) (ht : P.underlying t = some (.slice 3)) (hi : P.info? 3 = some i) (hz : i.zero = some (.int .i64 0)) (hsize : i.size = 1) (hby : i.bytes = 8)
    (A : Option Addr) (n c : Nat) (xs : List Int) (hs : a.eval s = .slice A n c) (hown : OwnI w base A n c xs) (B : Option Addr) (m d : Nat) (ys : List Int) (hx : a.eval x = .slice B m d) (hb : IL w B m ys)
    (hsm : n + m ≤ 17592186044416) (hbase : base ≤ w.heap.size)
    (h : ∀ A' c' w', Appended w base A (n + m) c (xs ++ ys) A' c' w' → K (a.put o.dst (.slice A' (n + m) c')) w') :
    if Region.wanted o (yielded ops a.tmps) = true then Oper.wp P o a w K Q else E := by
  have hw : Region.wanted o (yielded ops a.tmps) = true := by simp [Region.wanted, hgd]
  rw [if_pos hw]
  exact wp_append_int w s x t ho base i ht hi hz hsize hby A n c xs hs hown B m d ys hx hb hsm hbase h
end

section
variable {w w' : World} {base : Nat} {A : Option Addr} {n c : Nat} {xs : List Int}
theorem OwnI.nil_ (w : World) (base : Nat) : OwnI w base none 0 0 [] := ⟨World.ownsRow_nil _ _ _ _, by omega⟩
theorem OwnI.alloc (h : OwnI w base A n c xs) (o : Obj) : OwnI (w.alloc o) base A n c xs := ⟨h.own.alloc o, h.small⟩
theorem OwnI.drew (h : OwnI w base A n c xs) : OwnI w.drew base A n c xs := ⟨h.own, h.small⟩
theorem OwnI.drewN (h : OwnI w base A n c xs) (k : Nat) : OwnI (w.drewN k) base A n c xs := ⟨h.own, h.small⟩
theorem IL.alloc (h : IL w A n xs) (o : Obj) : IL (w.alloc o) A n xs := h.below ((Below.refl _ _).alloc (Nat.le_refl _) o)
theorem IL.drew (h : IL w A n xs) : IL w.drew A n xs := h.below (Below.refl _ _).drew
theorem IL.drewN (h : IL w A n xs) (k : Nat) : IL (w.drewN k) A n xs := h.below (below_drewN (Below.refl _ _) k)
/-- A literal slice. -/
theorem OwnI.lit (w : World) (xs : List Int) (hb : base ≤ w.heap.size) (hs : xs.length ≤ 17592186044416) {cs : Array Value} (hc : cs = (xs.map (Value.int .i64)).toArray) {m d : Nat} (hm : xs.length = m) (hd : m = d) :
    OwnI (w.alloc (.cells cs 3)) base (some ⟨w.heap.size, 0, none⟩) m d xs := by
  subst hc hm hd
  refine ⟨?_, hs⟩
  have := World.ownsRow_lit (base := base) (e := 3) (size := 1) w (xs.map (Value.int .i64)).toArray xs.length hb (by unfold maxLen; omega) (by simp)
  simpa using this
theorem IL.lit (w : World) (xs : List Int) (hs : xs.length ≤ 17592186044416) {cs : Array Value} (hc : cs = (xs.map (Value.int .i64)).toArray) {m : Nat} (hm : xs.length = m) :
    IL (w.alloc (.cells cs 3)) (some ⟨w.heap.size, 0, none⟩) m xs := (OwnI.lit (base := 0) w xs (Nat.zero_le _) hs hc hm rfl).il
/-- A row is kept where another one was written. -/
theorem OwnI.kept (h : OwnI w base A n c xs) {row : Option Nat} (hg : w.grownBy w' row) (hne : (Value.slice A n c).ownBlock = none ∨ (Value.slice A n c).ownBlock ≠ row) : OwnI w' base A n c xs := ⟨h.own.kept hg hne, h.small⟩
theorem OwnI.cap (h : OwnI w base A n c xs) : n ≤ c := by
  rcases h.own.2 with ⟨hv, h0⟩ | ⟨g, cap, cur, hv, _, _, hnc, _⟩
  · omega
  · simp only [Value.slice.injEq, true_and] at hv
    omega
theorem OwnI.lt (h : OwnI w base A n c xs) : ∀ k, (Value.slice A n c).ownBlock = some k → base ≤ k ∧ k < w.heap.size := h.own.lt
end
section
variable {w w' : World} {base : Nat} {A : Option Addr} {n c : Nat} {xs : List Int}
theorem IL.pre {k : Nat} (h : IL w A n xs) (hk : k ≤ n) : IL w A k (xs.take k) := by
  have hl := h.len
  refine ⟨by rw [List.length_take]; omega, by have := h.small; omega, fun h0 => ?_⟩
  obtain ⟨ad, e, hlt, hc⟩ := h.mem (by omega)
  refine ⟨ad, e, hlt, fun j hj => ?_⟩
  rw [hc j (by omega)]
  simp [List.getD, List.getElem?_take, hj]
theorem IL.tail {g o k d : Nat} (h : IL w (some ⟨g, o, none⟩) n xs) (hk : k ≤ n) (hd : n ≤ d) : IL w (if d = k then some ⟨g, o, none⟩ else some ⟨g, o + k, none⟩) (n - k) (xs.drop k) := by
  have hl := h.len
  refine ⟨by rw [List.length_drop]; omega, by have := h.small; omega, fun h0 => ?_⟩
  obtain ⟨ad, e, hlt, hc⟩ := h.mem (by omega)
  injection e with e
  subst e
  rw [if_neg (by omega)]
  refine ⟨_, rfl, hlt, fun j hj => ?_⟩
  have e2 := hc (k + j) (by omega)
  rw [Addr.add_lit] at e2 ⊢
  rw [Nat.add_assoc, e2]
  simp [List.getD, List.getElem?_drop]
end

end Go.Proofs.Ytihpmdfeonphpaa
/- Slices of slices of integers that the call itself made. -/
namespace Go.Proofs.Ytihpmdfeonphpaa
set_option linter.unusedVariables false
set_option linter.unusedSimpArgs false
open Go.RowKit

/-- Every block of cells of type e is as it was. -/
def KeepT (e : TypeId) (w w' : World) : Prop := ∀ (g : Nat) (cur : Array Value), w.heap[g]? = some (.cells cur e (0, 0)) → w'.heap[g]? = some (.cells cur e (0, 0))
section
variable {e t : TypeId} {w w' w2 : World} {g : Nat} {cs : Array Value}
theorem KeepT.refl (e : TypeId) (w : World) : KeepT e w w := fun _ _ h => h
theorem KeepT.trans (h : KeepT e w w') (k : KeepT e w' w2) : KeepT e w w2 := fun g cur hg => k g cur (h g cur hg)
theorem KeepT.below (h : Below w.heap.size w w') : KeepT e w w' := fun g cur hg => (h.block g (Blk.lt (w := w) (t := e) (cs := cur) hg)).trans hg
theorem KeepT.alloc (w : World) (o : Obj) : KeepT e w (w.alloc o) := KeepT.below ((Below.refl _ _).alloc (Nat.le_refl _) o)
theorem KeepT.set_ (h : Blk w g t cs) (hne : t ≠ e) (i : Nat) (u : Value) : KeepT e w (w.setCell ⟨g, i, none⟩ u) := fun k cur hk => by
  refine (Below.heap_setCell w ⟨g, i, none⟩ u k ?_).trans hk
  rintro rfl
  unfold Blk at h
  rw [hk] at h
  injection h with h
  injection h with _ h
  exact hne h.symm
theorem KeepT.grown {row : Option Nat} (hg : w.grownBy w' row) (hr : ∀ k, row = some k → ∃ (t : TypeId) (cs : Array Value), w.heap[k]? = some (.cells cs t (0, 0)) ∧ t ≠ e) : KeepT e w w' := fun k cur hk => by
  refine (hg.block k (Blk.lt (w := w) (t := e) (cs := cur) hk) ?_).trans hk
  intro he
  obtain ⟨t, cs, h, hne⟩ := hr k he.symm
  rw [hk] at h
  injection h with h
  injection h with _ h
  exact hne h.symm
theorem KeepT.own {base size n : Nat} {v : Value} {xs : List Value} (h : KeepT e w w') (ho : w.ownsRow base e size v n xs) : w'.ownsRow base e size v n xs := by
  refine ⟨ho.1, ?_⟩
  rcases ho.2 with h2 | ⟨k, cap, cur, hv, hg, hh, r⟩
  · exact .inl h2
  · exact .inr ⟨k, cap, cur, hv, hg, h k cur hh, r⟩
theorem KeepT.ownI {base n c : Nat} {A : Option Addr} {xs : List Int} (h : KeepT 3 w w') (ho : OwnI w base A n c xs) : OwnI w' base A n c xs := ⟨h.own ho.own, ho.small⟩
end

/-- A slice of slices: its own row. -/
structure OwnV (w : World) (base : Nat) (A : Option Addr) (n c : Nat) (vs : List Value) : Prop where
  own : w.ownsRow base 22 1 (.slice A n c) n vs
  small : n ≤ 1000000
/-- The values are slices of the call's own, which hold the lists. -/
structure RowsI (w : World) (base : Nat) (vs : List Value) (xss : List (List Int)) : Prop where
  len : vs.length = xss.length
  row : ∀ i, i < vs.length → ∃ A n c, vs[i]? = some (.slice A n c) ∧ OwnI w base A n c (xss.getD i [])
section
variable {w w' : World} {base n c : Nat} {A : Option Addr} {vs : List Value} {xss : List (List Int)}
theorem OwnV.nil_ (w : World) (base : Nat) : OwnV w base none 0 0 [] := ⟨World.ownsRow_nil _ _ _ _, by omega⟩
theorem OwnV.len (h : OwnV w base A n c vs) : vs.length = n := by have := h.own.1; simpa using this
theorem OwnV.keep (h : OwnV w base A n c vs) (k : KeepT 22 w w') : OwnV w' base A n c vs := ⟨k.own h.own, h.small⟩
theorem OwnV.alloc (h : OwnV w base A n c vs) (o : Obj) : OwnV (w.alloc o) base A n c vs := h.keep (KeepT.alloc w o)
theorem OwnV.lt (h : OwnV w base A n c vs) : ∀ k, (Value.slice A n c).ownBlock = some k → base ≤ k ∧ k < w.heap.size := h.own.lt
theorem OwnV.block (h : OwnV w base A n c vs) : ∀ k, (Value.slice A n c).ownBlock = some k → ∃ (t : TypeId) (cs : Array Value), w.heap[k]? = some (.cells cs t (0, 0)) ∧ t ≠ 3 := by
  intro k hk
  rcases h.own.2 with ⟨hv, _⟩ | ⟨g, cap, cur, hv, _, hh, _⟩
  · rw [hv] at hk; cases hk
  · rw [hv] at hk
    injection hk with hk
    subst hk
    exact ⟨22, cur, hh, by decide⟩
theorem OwnV.cellAt (h : OwnV w base A n c vs) {j : Nat} (hj : j < n) : ∃ g, A = some ⟨g, 0, none⟩ ∧ w.cell? ⟨g, j, none⟩ = vs[j]? := by
  rcases h.own.2 with ⟨_, h0⟩ | ⟨g, cap, cur, hv, _, hh, _⟩
  · omega
  · have hA : A = some ⟨g, 0, none⟩ := by injection hv
    subst hA
    exact ⟨g, rfl, h.own.cellAt j (by omega)⟩
theorem RowsI.nil_ (w : World) (base : Nat) : RowsI w base [] [] := ⟨rfl, fun i hi => by simp at hi⟩
theorem RowsI.keep (h : RowsI w base vs xss) (k : KeepT 3 w w') : RowsI w' base vs xss := ⟨h.len, fun i hi => by
  obtain ⟨A, n, c, e, ho⟩ := h.row i hi
  exact ⟨A, n, c, e, k.ownI ho⟩⟩
theorem RowsI.snoc (h : RowsI w base vs xss) {B : Option Addr} {m d : Nat} {xs : List Int} (ho : OwnI w base B m d xs) : RowsI w base (vs ++ [.slice B m d]) (xss ++ [xs]) := by
  refine ⟨by simp [h.len], fun i hi => ?_⟩
  by_cases hlt : i < vs.length
  · obtain ⟨A, n, c, e, ho⟩ := h.row i hlt
    refine ⟨A, n, c, by rw [List.getElem?_append_left hlt]; exact e, ?_⟩
    have : (xss ++ [xs]).getD i [] = xss.getD i [] := by
      simp only [List.getD]
      rw [List.getElem?_append_left (by rw [← h.len]; exact hlt)]
    rw [this]
    exact ho
  · have hi' : i = vs.length := by simp at hi; omega
    subst hi'
    refine ⟨B, m, d, by simp, ?_⟩
    have : (xss ++ [xs]).getD vs.length [] = xs := by rw [h.len]; simp [List.getD]
    rw [this]
    exact ho
end

structure AppendedV (w : World) (base : Nat) (A : Option Addr) (n c : Nat) (zs : List Value) (A' : Option Addr) (c' : Nat) (w' : World) : Prop where
  own : OwnV w' base A' n c' zs
  grown : w.grownBy w' (Value.slice A n c).ownBlock
  lies : (Value.slice A' n c').ownBlock = (Value.slice A n c).ownBlock ∨ (Value.slice A' n c').ownBlock = some w.heap.size

section
variable {P : Program} (w : World)
theorem run_append_val (base : Nat) (t ty : TypeId) (i : TypeInfo) (ht : P.underlying t = some (.slice 22)) (hi : P.info? 22 = some i) (hz : i.zero = some (.slice none 0 0)) (hsize : i.size = 1) (hby : i.bytes = 24)
    (A : Option Addr) (n c : Nat) (vs : List Value) (hown : OwnV w base A n c vs) (ad : Addr) (d : Nat) (u : Value) (hu : w.cell? ad = some u) (h1 : u.oneCell' = true)
    (hs : n + 1 ≤ 1000000) (hbase : base ≤ w.heap.size) :
    ∃ A' c' w', (Builtin.append_ #[t, t] ty #[.slice A n c, .slice (some ad) 1 d]).run P w = .ok (.slice A' (n + 1) c') w' ∧ AppendedV w base A (n + 1) c (vs ++ [u]) A' c' w' := by
  have hcells : ∀ j v, [u][j]? = some v → w.cell? (ad.add j) = some v := by
    intro j v hv
    rcases j with _ | j
    · simp at hv
      subst hv
      have : ad.add 0 = ad := by unfold Addr.add; simp
      rw [this]
      exact hu
    · simp at hv
  obtain ⟨v', w', hrun, h2, h3, _, h5⟩ := run_append_own_at (P := P) w base t ty 22 i (.slice none 0 0) 1 24 ht hi hz hsize hby rfl (by omega) (.slice A n c) n _ hown.own ad 1 d [u]
    rfl hcells (by simpa using h1) (by simp only [maxLen]; omega) (by omega) hbase
  have hv : ∃ A' c', v' = .slice A' (n + 1) c' := by
    rcases h2.2 with ⟨rfl, h0⟩ | ⟨g, cap, cur, rfl, _⟩
    · omega
    · exact ⟨_, _, rfl⟩
  obtain ⟨A', c', rfl⟩ := hv
  refine ⟨A', c', w', hrun, ⟨h2, hs⟩, ?_, ?_⟩
  · rw [ownBlock_len A (n + 1) n c c]; exact h3
  · rw [ownBlock_len A (n + 1) n c c]; exact h5

theorem wpList_append_val {ops : Array Oper} {rest : List Oper} {o : Oper} {a : Act} {Q : Exit → Act → World → Prop} (hgd : o.guard = none) (s x : Operand) (t : TypeId)
    (ho : o.op = .call { callee := .builtin .append, args := #[s, x], argTypes := #[t, t] })
    (base : Nat) (i : TypeInfo) (ht : P.underlying t = some (.slice 22)) (hi : P.info? 22 = some i) (hz : i.zero = some (.slice none 0 0)) (hsize : i.size = 1) (hby : i.bytes = 24)
    (A : Option Addr) (n c : Nat) (vs : List Value) (hs : a.eval s = .slice A n c) (hown : OwnV w base A n c vs) (ad : Addr) (d : Nat) (u : Value) (hx : a.eval x = .slice (some ad) 1 d) (hu : w.cell? ad = some u) (h1 : u.oneCell' = true)
    (hsm : n + 1 ≤ 1000000) (hbase : base ≤ w.heap.size)
    (h : ∀ A' c' w', AppendedV w base A (n + 1) c (vs ++ [u]) A' c' w' → wpList P ops Q rest (a.put o.dst (.slice A' (n + 1) c')) w') : wpList P ops Q (o :: rest) a w :=
  wpList_plain hgd fun K hK => by
    obtain ⟨A', c', w', hrun, h2⟩ := run_append_val (P := P) w base t o.type i ht hi hz hsize hby A n c vs hown ad d u hu h1 hsm hbase
    unfold Oper.wp execOp
    simp only [ho, resolve, invoke, builtin, Sem.run_bind, Sem.run_pure, Result.andThen_ok, List.map_toArray, List.map_cons, List.map_nil, hs, hx, hrun]
    exact hK _ _ (h A' c' w' h2)
end
end Go.Proofs.Ytihpmdfeonphpaa
/- Slices of slices of integers, to be read. (Not beside XOrder, which has words of its own of this name.) -/
namespace Go.Proofs.Ytihpmdfeonphpaa
set_option linter.unusedVariables false
set_option linter.unusedSimpArgs false
open Go.RowKit

/-- A slice of slices, to be read. -/
structure ILL (w : World) (A : Option Addr) (n : Nat) (xss : List (List Int)) : Prop where
  len : xss.length = n
  small : n ≤ 17592186044416
  mem : 0 < n → ∃ ad, A = some ad ∧ ad.block < w.heap.size ∧ ∀ j, j < n → ∃ B m d, w.cell? (ad.add j) = some (.slice B m d) ∧ IL w B m (xss.getD j [])
theorem ILL.at_ {w : World} {A : Option Addr} {n k : Nat} {xss : List (List Int)} (h : ILL w A n xss) (hk : k < n) : ∃ ad B m d, A = some ad ∧ w.cell? (ad.add k) = some (.slice B m d) ∧ IL w B m (xss.getD k []) := by
  obtain ⟨ad, e, _, hc⟩ := h.mem (by omega)
  obtain ⟨B, m, d, h1, h2⟩ := hc k hk
  exact ⟨ad, B, m, d, e, h1, h2⟩
theorem ILL.below {w w' : World} {A : Option Addr} {n : Nat} {xss : List (List Int)} (h : ILL w A n xss) (hb : Below w.heap.size w w') : ILL w' A n xss :=
  ⟨h.len, h.small, fun hn => by
    obtain ⟨ad, e, hl, hc⟩ := h.mem hn
    refine ⟨ad, e, Nat.lt_of_lt_of_le hl hb.size, fun j hj => ?_⟩
    obtain ⟨B, m, d, h1, h2⟩ := hc j hj
    exact ⟨B, m, d, (hb.cell (p := ad.add j) (by rw [block_of_add]; exact hl)).trans h1, h2.below hb⟩⟩
theorem ILL.drewN {w : World} {A : Option Addr} {n : Nat} {xss : List (List Int)} (h : ILL w A n xss) (k : Nat) : ILL (w.drewN k) A n xss := h.below (below_drewN (Below.refl _ _) k)
theorem ILL.at2 {w w' : World} {A : Option Addr} {n k : Nat} {xss : List (List Int)} (h : ILL w A n xss) (hb : Below w.heap.size w w') (hk : k < n) : ∃ ad B m d, A = some ad ∧ w'.cell? (ad.add k) = some (.slice B m d) ∧ IL w B m (xss.getD k []) := by
  obtain ⟨ad, e, hl, hc⟩ := h.mem (by omega)
  obtain ⟨B, m, d, h1, h2⟩ := hc k hk
  exact ⟨ad, B, m, d, e, (hb.cell (p := ad.add k) (by rw [block_of_add]; exact hl)).trans h1, h2⟩
theorem ILL.of_rows {w : World} {base n c : Nat} {A : Option Addr} {vs : List Value} {xss : List (List Int)} (h : OwnV w base A n c vs) (hr : RowsI w base vs xss) : ILL w A n xss := by
  have hl := h.len
  refine ⟨by rw [← hr.len]; exact hl, by have := h.small; omega, fun hn => ?_⟩
  obtain ⟨g, rfl, _⟩ := h.cellAt hn
  refine ⟨⟨g, 0, none⟩, rfl, (h.lt g rfl).2, fun j hj => ?_⟩
  obtain ⟨g', e, hc⟩ := h.cellAt hj
  injection e with e
  injection e with e
  subst e
  obtain ⟨B, m, d, h1, h2⟩ := hr.row j (by omega)
  exact ⟨B, m, d, by rw [show (⟨g, 0, none⟩ : Addr).add j = ⟨g, j, none⟩ by unfold Addr.add; split <;> simp_all, hc, h1], h2.il⟩
theorem ILL.pre {w : World} {A : Option Addr} {n k : Nat} {xss : List (List Int)} (h : ILL w A n xss) (hk : k ≤ n) : ILL w A k (xss.take k) := by
  have hl := h.len
  refine ⟨by rw [List.length_take]; omega, by have := h.small; omega, fun h0 => ?_⟩
  obtain ⟨ad, e, hlt, hc⟩ := h.mem (by omega)
  refine ⟨ad, e, hlt, fun j hj => ?_⟩
  obtain ⟨B, m, d, h1, h2⟩ := hc j (by omega)
  refine ⟨B, m, d, h1, ?_⟩
  have : (xss.take k).getD j [] = xss.getD j [] := by simp [List.getD, List.getElem?_take, hj]
  rw [this]
  exact h2
/-- A literal of slices. -/
theorem ILL.lit {w : World} {vs : List Value} {xss : List (List Int)} (hl : vs.length = xss.length) (hs : xss.length ≤ 1000) (h : ∀ j, j < xss.length → ∃ B m d, vs[j]? = some (.slice B m d) ∧ IL w B m (xss.getD j [])) {cs : Array Value} (hc : cs = vs.toArray) {m : Nat} (hm : xss.length = m) :
    ILL (w.alloc (.cells cs 22)) (some ⟨w.heap.size, 0, none⟩) m xss := by
  subst hc
  refine ⟨hm, by omega, fun _ => ⟨⟨w.heap.size, 0, none⟩, rfl, by simp, fun j hj => ?_⟩⟩
  obtain ⟨B, n, d, h1, h2⟩ := h j (by omega)
  refine ⟨B, n, d, ?_, h2.alloc _⟩
  rw [show (⟨w.heap.size, 0, none⟩ : Addr).add j = ⟨w.heap.size, j, none⟩ by unfold Addr.add; split <;> simp_all, (Blk.new w 22 vs.toArray).cell j]
  simpa using h1
theorem sum_take {xss : List (List Int)} {k : Nat} (h : k < xss.length) : (xss.take (k + 1)).flatten = (xss.take k).flatten ++ xss.getD k [] := by
  rw [List.take_succ_eq_append_getElem h, List.flatten_append]
  simp [List.getD, List.getElem?_eq_getElem h]
theorem flatten_take_le (xss : List (List Int)) (k : Nat) : (xss.take k).flatten.length ≤ xss.flatten.length := by
  have := congrArg List.length (congrArg List.flatten (List.take_append_drop k xss))
  rw [List.flatten_append, List.length_append] at this
  omega
end Go.Proofs.Ytihpmdfeonphpaa
/- Plain mathematics on lists: permutations. -/
namespace Go.Proofs.Ytihpmdfeonphpaa
set_option linter.unusedVariables false
set_option linter.unusedSimpArgs false

/-- A list of natural numbers as integers. -/
def zs (a : List Nat) : List Int := a.map Int.ofNat
theorem zs_length (a : List Nat) : (zs a).length = a.length := by simp [zs]
theorem zs_getD (a : List Nat) (j : Nat) : (zs a).getD j 0 = ((a.getD j 0 : Nat) : Int) := by
  simp [zs, List.getD]
  cases a[j]? <;> simp
theorem zs_inj {a b : List Nat} (h : zs a = zs b) : a = b := by
  refine List.map_inj_right (f := Int.ofNat) (fun x y hxy => ?_) |>.1 h
  exact Int.ofNat.inj hxy

/-- The errors of Check, element by element. -/
def pfGo (n : Nat) (pre : List Int) : List Int → Int
  | [] => 0
  | x :: r => if x < 0 ∨ (n : Int) ≤ x then 1 else if x ∈ pre then 5 else pfGo n (pre ++ [x]) r
/-- The error of Check. -/
def pf (xs : List Int) : Int := if 9 < xs.length then 2 else pfGo xs.length [] xs

/-- A permutation. -/
def isP (a : List Nat) : Prop := (∀ x ∈ a, x < a.length) ∧ a.Nodup

theorem pfGo_zero (n : Nat) (pre xs : List Int) : pfGo n pre xs = 0 ↔ (∀ x ∈ xs, 0 ≤ x ∧ x < n) ∧ xs.Nodup ∧ (∀ x ∈ xs, x ∉ pre) := by
  induction xs generalizing pre with
  | nil => simp [pfGo]
  | cons x r ih =>
    rw [pfGo]
    by_cases h1 : x < 0 ∨ (n : Int) ≤ x
    · rw [if_pos h1]
      constructor
      · intro h; cases h
      · rintro ⟨h, _⟩
        have := h x (by simp)
        omega
    · rw [if_neg h1]
      by_cases h2 : x ∈ pre
      · rw [if_pos h2]
        constructor
        · intro h; cases h
        · rintro ⟨_, _, h⟩
          exact absurd h2 (h x (by simp))
      · rw [if_neg h2, ih]
        constructor
        · rintro ⟨a, b, c⟩
          refine ⟨?_, ?_, ?_⟩
          · intro y hy
            rcases List.mem_cons.1 hy with rfl | hy
            · omega
            · exact a y hy
          · rw [List.nodup_cons]
            refine ⟨fun hx => ?_, b⟩
            have := c x hx
            simp at this
          · intro y hy
            rcases List.mem_cons.1 hy with rfl | hy
            · exact h2
            · have := c y hy
              simp at this
              exact this.1
        · rintro ⟨a, b, c⟩
          rw [List.nodup_cons] at b
          refine ⟨fun y hy => a y (by simp [hy]), b.2, fun y hy => ?_⟩
          simp only [List.mem_append, List.mem_singleton, not_or]
          refine ⟨c y (by simp [hy]), ?_⟩
          rintro rfl
          exact b.1 hy

theorem pf_zero (xs : List Int) : pf xs = 0 ↔ xs.length ≤ 9 ∧ ∃ a, xs = zs a ∧ isP a := by
  unfold pf
  by_cases h : 9 < xs.length
  · rw [if_pos h]
    constructor
    · intro h; cases h
    · rintro ⟨h1, _⟩; omega
  · rw [if_neg h, pfGo_zero]
    constructor
    · rintro ⟨h1, h2, _⟩
      have e : xs = zs (xs.map Int.toNat) := by
        unfold zs
        rw [List.map_map]
        conv => lhs; rw [← List.map_id xs]
        apply List.map_congr_left
        intro x hx
        have := h1 x hx
        simp
        omega
      refine ⟨by omega, xs.map Int.toNat, e, ?_, ?_⟩
      · intro x hx
        obtain ⟨y, hy, rfl⟩ := List.mem_map.1 hx
        have := h1 y hy
        simp
        omega
      · rw [e] at h2
        unfold zs at h2
        exact List.Pairwise.of_map (S := fun a b => a ≠ b) Int.ofNat (fun a b hab => by intro h; subst h; exact hab rfl) h2
    · rintro ⟨h1, a, rfl, h3, h4⟩
      refine ⟨?_, ?_, by simp⟩
      · intro x hx
        obtain ⟨y, hy, rfl⟩ := List.mem_map.1 hx
        have := h3 y hy
        rw [zs_length]
        simp
        exact this
      · unfold zs
        exact List.Pairwise.map (S := fun a b => a ≠ b) Int.ofNat (fun a b hab => by intro h; exact hab (Int.ofNat.inj h)) h4

theorem pf_step {xs : List Int} {k : Nat} (hk : k < xs.length) :
    pfGo xs.length (xs.take k) (xs.drop k) = if xs.getD k 0 < 0 ∨ (xs.length : Int) ≤ xs.getD k 0 then 1 else if xs.getD k 0 ∈ xs.take k then 5 else pfGo xs.length (xs.take (k + 1)) (xs.drop (k + 1)) := by
  rw [List.drop_eq_getElem_cons hk, pfGo]
  have e : xs.getD k 0 = xs[k] := by simp [List.getD, List.getElem?_eq_getElem hk]
  rw [e, List.take_succ_eq_append_getElem hk]
theorem pf_end (xs : List Int) (n : Nat) (k : Nat) (hk : xs.length ≤ k) (pre : List Int) : pfGo n pre (xs.drop k) = 0 := by
  rw [List.drop_eq_nil_of_le hk]; rfl
/-- First a, then b. -/
def comp (a b : List Nat) : List Nat := a.map fun x => b.getD x 0
theorem comp_length (a b : List Nat) : (comp a b).length = a.length := by simp [comp]

theorem getD_map_nat {a : List Nat} {f : Nat → Nat} {j : Nat} (hj : j < a.length) : (a.map f).getD j 0 = f (a.getD j 0) := by
  simp [List.getD, List.getElem?_eq_getElem hj]
theorem comp_getD {a b : List Nat} {j : Nat} (hj : j < a.length) : (comp a b).getD j 0 = b.getD (a.getD j 0) 0 := getD_map_nat hj

/-- A list that is filled from the left: of n elements k are there. -/
def fillN (f : Nat → Int) (n k : Nat) : List Int := (List.range n).map fun j => if j < k then f j else 0
theorem fillN_zero (f : Nat → Int) (n : Nat) : fillN f n 0 = List.replicate n 0 := by
  apply List.ext_getElem?
  intro i
  by_cases hi : i < n <;> simp [fillN, hi]
theorem fillN_set (f : Nat → Int) (n k : Nat) : (fillN f n k).set k (f k) = fillN f n (k + 1) := by
  apply List.ext_getElem?
  intro i
  by_cases hi : i < n
  · by_cases hik : k = i
    · subst hik; simp [fillN, hi]
    · simp only [fillN, List.getElem?_set, hik, if_false, List.getElem?_map, List.getElem?_range hi, Option.map_some]
      by_cases h1 : i < k
      · rw [if_pos h1, if_pos (by omega)]
      · rw [if_neg h1, if_neg (by omega)]
  · rw [List.getElem?_eq_none (by simp [fillN]; omega), List.getElem?_eq_none (by simp [fillN]; omega)]
theorem fillN_full {f : Nat → Int} {n : Nat} {xs : List Int} (hl : xs.length = n) (h : ∀ j, j < n → f j = xs.getD j 0) : fillN f n n = xs := by
  apply List.ext_getElem?
  intro i
  by_cases hi : i < n
  · have h2 := h i hi
    simp [fillN, hi, h2, List.getD, List.getElem?_eq_getElem (show i < xs.length by omega)]
  · rw [List.getElem?_eq_none (by simp [fillN]; omega), List.getElem?_eq_none (by omega)]

/-- The error of Compose. -/
def cfault (xs ys : List Int) : Int := if pf xs ≠ 0 then pf xs else if pf ys ≠ 0 then pf ys else if xs.length ≠ ys.length then 3 else 0

theorem isP.pf {a : List Nat} (h : isP a) (h9 : a.length ≤ 9) : pf (zs a) = 0 := (pf_zero _).2 ⟨by rw [zs_length]; exact h9, a, rfl, h⟩

theorem nodup_length_le : ∀ (n : Nat) (l : List Nat), l.Nodup → (∀ x ∈ l, x < n) → l.length ≤ n := by
  intro n
  induction n with
  | zero =>
    intro l _ h
    rcases l with _ | ⟨x, r⟩
    · simp
    · exact absurd (h x (by simp)) (by omega)
  | succ n ih =>
    intro l hn h
    by_cases hm : n ∈ l
    · have h1 := ih (l.erase n) (hn.erase n) (fun x hx => by
        rw [hn.mem_erase_iff] at hx
        have := h x hx.2
        omega)
      rw [List.length_erase_of_mem hm] at h1
      omega
    · have h1 := ih l hn (fun x hx => by
        have := h x hx
        have : x ≠ n := fun e => hm (e ▸ hx)
        omega)
      omega

theorem isP.mem {a : List Nat} (h : isP a) {i : Nat} (hi : i < a.length) : i ∈ a := by
  apply Classical.byContradiction
  intro hm
  have := nodup_length_le a.length (i :: a) (by rw [List.nodup_cons]; exact ⟨hm, h.2⟩) (fun x hx => by
    rcases List.mem_cons.1 hx with rfl | hx
    · exact hi
    · exact h.1 x hx)
  simp at this
  omega
theorem getD_eq {a : List Nat} {j : Nat} (hj : j < a.length) : a.getD j 0 = a[j] := by
  simp [List.getD, List.getElem?_eq_getElem hj]
theorem getD_mem {a : List Nat} {j : Nat} (hj : j < a.length) : a.getD j 0 ∈ a := by
  simp [List.getD, List.getElem?_eq_getElem hj]
theorem isP.lt {a : List Nat} (h : isP a) {j : Nat} (hj : j < a.length) : a.getD j 0 < a.length := h.1 _ (getD_mem hj)
theorem isP.inj {a : List Nat} (h : isP a) {i j : Nat} (hi : i < a.length) (hj : j < a.length) (he : a.getD i 0 = a.getD j 0) : i = j := by
  have h2 := h.2
  simp [List.getD, List.getElem?_eq_getElem hi, List.getElem?_eq_getElem hj] at he
  exact (List.getElem_inj h2).1 he
theorem isP.surj {a : List Nat} (h : isP a) {i : Nat} (hi : i < a.length) : ∃ j, j < a.length ∧ a.getD j 0 = i := by
  obtain ⟨j, hj, he⟩ := List.mem_iff_getElem.1 (h.mem hi)
  exact ⟨j, hj, by simp [List.getD, List.getElem?_eq_getElem hj, he]⟩
theorem isP_of {a : List Nat} (h1 : ∀ j, j < a.length → a.getD j 0 < a.length) (h2 : ∀ i j, i < a.length → j < a.length → a.getD i 0 = a.getD j 0 → i = j) : isP a := by
  constructor
  · intro x hx
    obtain ⟨j, hj, he⟩ := List.mem_iff_getElem.1 hx
    have := h1 j hj
    simp [List.getD, List.getElem?_eq_getElem hj, he] at this
    exact this
  · rw [List.nodup_iff_pairwise_ne, List.pairwise_iff_getElem]
    intro i j hi hj hij he
    have := h2 i j hi hj (by simp [List.getD, List.getElem?_eq_getElem hi, List.getElem?_eq_getElem hj, he])
    omega
theorem list_ext_getD {a b : List Nat} (hl : a.length = b.length) (h : ∀ j, j < a.length → a.getD j 0 = b.getD j 0) : a = b := by
  apply List.ext_getElem hl
  intro i h1 h2
  have := h i h1
  simpa [List.getD, List.getElem?_eq_getElem h1, List.getElem?_eq_getElem h2] using this

/-- The inverse. -/
def inv (a : List Nat) : List Nat := (List.range a.length).map fun i => a.idxOf i
theorem inv_length (a : List Nat) : (inv a).length = a.length := by simp [inv]
theorem inv_getD_self {a : List Nat} (h : isP a) {j : Nat} (hj : j < a.length) : (inv a).getD (a.getD j 0) 0 = j := by
  have hl := h.lt hj
  have e : (inv a).getD (a.getD j 0) 0 = a.idxOf (a.getD j 0) := by
    simp [inv, List.getD, hl, List.getElem?_eq_getElem hj] at hl ⊢
    simp [hl]
  rw [e]
  have h1 : a.idxOf (a.getD j 0) < a.length := List.idxOf_lt_length_iff.2 (getD_mem hj)
  refine h.inj h1 hj ?_
  have : a[a.idxOf (a.getD j 0)]'h1 = a.getD j 0 := List.getElem_idxOf h1
  rw [show a.getD (a.idxOf (a.getD j 0)) 0 = a[a.idxOf (a.getD j 0)]'h1 from getD_eq h1]
  exact this
/-- Whoever undoes a is the inverse. -/
theorem inv_unique {a : List Nat} (h : isP a) {ps : List Int} (hl : ps.length = a.length) (hp : ∀ j, j < a.length → ps.getD (a.getD j 0) 0 = (j : Int)) : ps = zs (inv a) := by
  apply List.ext_getElem (by rw [hl, zs_length, inv_length])
  intro i h1 h2
  obtain ⟨j, hj, he⟩ := h.surj (i := i) (by omega)
  have e1 := hp j hj
  have e2 := inv_getD_self h hj
  rw [he] at e1 e2
  have e3 := zs_getD (inv a) i
  rw [e2] at e3
  simp only [List.getD, List.getElem?_eq_getElem h1, List.getElem?_eq_getElem h2, Option.getD_some] at e1 e3
  rw [e1, e3]

theorem comp_isP {a b : List Nat} (ha : isP a) (hb : isP b) (hl : a.length = b.length) : isP (comp a b) := by
  refine isP_of ?_ ?_
  · intro j hj
    rw [comp_length] at hj ⊢
    rw [comp_getD hj, hl]
    exact hb.lt (by rw [← hl]; exact ha.lt hj)
  · intro i j hi hj he
    rw [comp_length] at hi hj
    rw [comp_getD hi, comp_getD hj] at he
    exact ha.inj hi hj (hb.inj (by rw [← hl]; exact ha.lt hi) (by rw [← hl]; exact ha.lt hj) he)
theorem inv_isP {a : List Nat} (ha : isP a) : isP (inv a) := by
  refine isP_of ?_ ?_
  · intro i hi
    rw [inv_length] at hi ⊢
    obtain ⟨j, hj, rfl⟩ := ha.surj hi
    rw [inv_getD_self ha hj]
    exact hj
  · intro i k hi hk he
    rw [inv_length] at hi hk
    obtain ⟨j, hj, rfl⟩ := ha.surj hi
    obtain ⟨l, hl, rfl⟩ := ha.surj hk
    rw [inv_getD_self ha hj, inv_getD_self ha hl] at he
    rw [he]
theorem comp_assoc {a b c : List Nat} (hab : ∀ x ∈ a, x < b.length) : comp (comp a b) c = comp a (comp b c) := by
  refine list_ext_getD (by simp [comp_length]) ?_
  intro j hj
  rw [comp_length, comp_length] at hj
  rw [comp_getD (by rw [comp_length]; exact hj), comp_getD hj, comp_getD hj, comp_getD (hab _ (getD_mem hj))]
theorem range_getD {n j : Nat} (hj : j < n) : (List.range n).getD j 0 = j := by simp [List.getD, hj]
theorem comp_inv {a : List Nat} (ha : isP a) : comp a (inv a) = List.range a.length := by
  refine list_ext_getD (by simp [comp_length]) ?_
  intro j hj
  rw [comp_length] at hj
  rw [comp_getD hj, inv_getD_self ha hj, range_getD hj]
theorem inv_comp {a : List Nat} (ha : isP a) : comp (inv a) a = List.range a.length := by
  refine list_ext_getD (by simp [comp_length, inv_length]) ?_
  intro i hi
  rw [comp_length, inv_length] at hi
  obtain ⟨j, hj, rfl⟩ := ha.surj hi
  rw [comp_getD (by rw [inv_length]; exact hi), inv_getD_self ha hj, range_getD hi]
theorem range_isP (n : Nat) : isP (List.range n) := ⟨fun x hx => by simpa using hx, List.nodup_range⟩

end Go.Proofs.Ytihpmdfeonphpaa
/- Plain mathematics: ranks. -/
namespace Go.Proofs.Ytihpmdfeonphpaa
set_option linter.unusedVariables false
set_option linter.unusedSimpArgs false

/-- How many elements are less than x. -/
def cntLt (xs : List Int) (x : Int) : Nat := xs.countP fun y => decide (y < x)
/-- The rank of the first k elements. -/
def rkGo (a : List Nat) : Nat → Nat
  | 0 => 0
  | k + 1 => rkGo a k * (a.length - k) + cntLt ((zs a).drop k) (a.getD k 0 : Nat)
/-- The rank. -/
def rankN (a : List Nat) : Nat := rkGo a a.length
/-- n (n - 1) .. of k factors. -/
def descF (n : Nat) : Nat → Nat
  | 0 => 1
  | k + 1 => descF n k * (n - k)
theorem cnt_drop_lt {a : List Nat} {k : Nat} (hk : k < a.length) : cntLt ((zs a).drop k) (a.getD k 0 : Nat) + 1 ≤ a.length - k := by
  have hk' : k < (zs a).length := by rw [zs_length]; exact hk
  have e : (zs a)[k] = ((a.getD k 0 : Nat) : Int) := by
    have := zs_getD a k
    rw [← this]
    simp [List.getD, List.getElem?_eq_getElem hk']
  rw [List.drop_eq_getElem_cons hk', e]
  unfold cntLt
  rw [List.countP_cons]
  have := List.countP_le_length (p := fun y => decide (y < ((a.getD k 0 : Nat) : Int))) (l := (zs a).drop (k + 1))
  rw [List.length_drop, zs_length] at this
  simp only [Int.lt_irrefl, decide_false, Bool.false_eq_true, if_false]
  omega
theorem rkGo_lt (a : List Nat) : ∀ k, k ≤ a.length → rkGo a k + 1 ≤ descF a.length k := by
  intro k
  induction k with
  | zero => intro _; simp [rkGo, descF]
  | succ k ih =>
    intro hk
    have h1 := ih (by omega)
    have h2 := cnt_drop_lt (a := a) (k := k) (by omega)
    rw [rkGo, descF]
    have h3 := Nat.mul_le_mul_right (a.length - k) h1
    rw [Nat.add_mul] at h3
    omega
theorem descF_small : ∀ n, n < 10 → ∀ k, k < 10 → descF n k ≤ 362880 := by decide
theorem rkGo_mul {a : List Nat} (h9 : a.length ≤ 9) {k : Nat} (hk : k < a.length) : rkGo a k * (a.length - k) ≤ 362880 := by
  have h1 := rkGo_lt a k (by omega)
  have h2 := descF_small a.length (by omega) (k + 1) (by omega)
  rw [descF] at h2
  exact Nat.le_trans (Nat.mul_le_mul_right _ (by omega)) h2
theorem rankN_lt {a : List Nat} (h9 : a.length ≤ 9) : rankN a < 362880 := by
  have h1 := rkGo_lt a a.length (Nat.le_refl _)
  have h2 := descF_small a.length (by omega) a.length (by omega)
  unfold rankN
  omega
theorem isP_of_perm {l : List Nat} {n : Nat} (h : l.Perm (List.range n)) : isP l ∧ l.length = n := by
  have hl : l.length = n := by rw [h.length_eq, List.length_range]
  refine ⟨⟨fun x hx => ?_, h.symm.nodup List.nodup_range⟩, hl⟩
  have := h.mem_iff.1 hx
  rw [hl]
  simpa using this
theorem perm_take {os rs : List Nat} {i n : Nat} (hi : i < rs.length) (h : (os ++ rs).Perm (List.range n)) : ((os ++ [rs.getD i 0]) ++ (rs.take i ++ rs.drop (i + 1))).Perm (List.range n) := by
  refine List.Perm.trans ?_ h
  rw [List.append_assoc]
  refine List.Perm.append_left _ ?_
  have e : rs = rs.take i ++ rs.getD i 0 :: rs.drop (i + 1) := by
    rw [getD_eq hi, ← List.drop_eq_getElem_cons hi, List.take_append_drop]
  have h2 : (rs.getD i 0 :: (rs.take i ++ rs.drop (i + 1))).Perm (rs.take i ++ rs.getD i 0 :: rs.drop (i + 1)) := List.perm_middle.symm
  rw [← e] at h2
  exact h2
theorem range_take {os rs : List Nat} {n : Nat} (hi : 0 < rs.length) (h : os ++ rs = List.range n) : (os ++ [rs.getD 0 0]) ++ (rs.take 0 ++ rs.drop 1) = List.range n := by
  rw [← h]
  have e : rs = rs.getD 0 0 :: rs.drop 1 := by
    rw [getD_eq hi, ← List.drop_eq_getElem_cons hi, List.drop_zero]
  conv => rhs; rw [e]
  simp
theorem zs_take (a : List Nat) (i : Nat) : (zs a).take i = zs (a.take i) := by simp [zs, List.map_take]
theorem zs_drop (a : List Nat) (i : Nat) : (zs a).drop i = zs (a.drop i) := by simp [zs, List.map_drop]
theorem zs_append (a b : List Nat) : zs a ++ zs b = zs (a ++ b) := by simp [zs]

end Go.Proofs.Ytihpmdfeonphpaa
/- Plain mathematics: ranks, unranking, lexicographic order. -/
namespace Go.Proofs.Ytihpmdfeonphpaa
set_option linter.unusedVariables false
set_option linter.unusedSimpArgs false

/-- Factorials. -/
def fct : Nat → Nat
  | 0 => 1
  | n + 1 => (n + 1) * fct n
theorem fct_pos : ∀ n, 0 < fct n
  | 0 => by simp [fct]
  | n + 1 => by rw [fct]; exact Nat.mul_pos (by omega) (fct_pos n)
theorem fct_small : ∀ n, n < 10 → fct n ≤ 362880 := by decide
def cntN (l : List Nat) (x : Nat) : Nat := l.countP fun y => decide (y < x)
def rkL : List Nat → Nat
  | [] => 0
  | x :: r => cntN r x * fct r.length + rkL r
theorem cntLt_zs (l : List Nat) (x : Nat) : cntLt (zs l) (x : Int) = cntN l x := by
  unfold cntLt cntN zs
  rw [List.countP_map]
  congr 1
  funext y
  simp
theorem cntN_self (r : List Nat) (x : Nat) : cntN (x :: r) x = cntN r x := by
  unfold cntN
  rw [List.countP_cons]
  simp
theorem rkL_lt : ∀ l, rkL l < fct l.length
  | [] => by simp [rkL, fct]
  | x :: r => by
    have h1 := rkL_lt r
    have h2 : cntN r x ≤ r.length := List.countP_le_length
    have h3 := Nat.mul_le_mul_right (fct r.length) h2
    rw [rkL, List.length_cons, fct, Nat.add_mul]
    omega
theorem rkGo_rkL (a : List Nat) : ∀ k, k ≤ a.length → rkGo a k * fct (a.length - k) + rkL (a.drop k) = rkL a := by
  intro k
  induction k with
  | zero => intro _; simp [rkGo]
  | succ k ih =>
    intro hk
    have h1 := ih (by omega)
    rw [List.drop_eq_getElem_cons (show k < a.length by omega), rkL, List.length_drop] at h1
    rw [rkGo, zs_drop, cntLt_zs, List.drop_eq_getElem_cons (show k < a.length by omega), getD_eq (show k < a.length by omega), cntN_self, Nat.add_mul, Nat.mul_assoc]
    rw [show a.length - k = (a.length - (k + 1)) + 1 from by omega, fct] at h1
    rw [show a.length - k = (a.length - (k + 1)) + 1 from by omega]
    omega
theorem rankN_eq (a : List Nat) : rankN a = rkL a := by
  have := rkGo_rkL a a.length (Nat.le_refl _)
  simp [fct, rkL] at this
  exact this

/-- The list of a rank, out of the sorted list us. -/
def unr : Nat → List Nat → Nat → List Nat
  | 0, _, _ => []
  | m + 1, us, r => us.getD (r / fct m) 0 :: unr m (us.take (r / fct m) ++ us.drop (r / fct m + 1)) (r % fct m)

abbrev Sorted (l : List Nat) : Prop := l.Pairwise (· < ·)

theorem cnt_zero {l : List Nat} {x : Nat} (h : ∀ y ∈ l, x ≤ y) : cntN l x = 0 := by
  unfold cntN
  rw [List.countP_eq_zero]
  intro y hy
  have := h y hy
  simp
  omega
theorem cntN_cons (u x : Nat) (t : List Nat) : cntN (u :: t) x = cntN t x + if u < x then 1 else 0 := by
  unfold cntN
  rw [List.countP_cons]
  simp
theorem sorted_at : ∀ {us : List Nat} {x : Nat}, Sorted us → x ∈ us → us.getD (cntN us x) 0 = x
  | u :: t, x, hs, hx => by
    have hs' := List.pairwise_cons.1 hs
    by_cases h : x = u
    · subst h
      rw [cntN_self, cnt_zero (fun y hy => Nat.le_of_lt (hs'.1 y hy))]
      rfl
    · have hxt : x ∈ t := by
        rcases List.mem_cons.1 hx with e | e
        · exact absurd e h
        · exact e
      rw [cntN_cons, if_pos (hs'.1 x hxt)]
      have := sorted_at hs'.2 hxt
      simpa [List.getD] using this
theorem cnt_sorted : ∀ {us : List Nat} {i : Nat}, Sorted us → i < us.length → cntN us (us.getD i 0) = i
  | u :: t, 0, hs, _ => by
    have hs' := List.pairwise_cons.1 hs
    simp only [List.getD, List.getElem?_cons_zero, Option.getD_some]
    rw [cntN_self]
    exact cnt_zero fun y hy => Nat.le_of_lt (hs'.1 y hy)
  | u :: t, i + 1, hs, hi => by
    have hs' := List.pairwise_cons.1 hs
    have hi' : i < t.length := by simpa using hi
    have e : (u :: t).getD (i + 1) 0 = t.getD i 0 := by simp [List.getD]
    rw [e, cntN_cons, cnt_sorted hs'.2 hi', if_pos (hs'.1 _ (getD_mem hi'))]
theorem perm_pick {us : List Nat} {i : Nat} (hi : i < us.length) : (us.getD i 0 :: (us.take i ++ us.drop (i + 1))).Perm us := by
  have e : us = us.take i ++ us.getD i 0 :: us.drop (i + 1) := by
    rw [getD_eq hi, ← List.drop_eq_getElem_cons hi, List.take_append_drop]
  have h2 : (us.getD i 0 :: (us.take i ++ us.drop (i + 1))).Perm (us.take i ++ us.getD i 0 :: us.drop (i + 1)) := List.perm_middle.symm
  rw [← e] at h2
  exact h2
theorem sorted_pick {us : List Nat} (hs : Sorted us) (i : Nat) : Sorted (us.take i ++ us.drop (i + 1)) := by
  rw [← List.eraseIdx_eq_take_drop_succ]
  exact List.Pairwise.sublist (List.eraseIdx_sublist us i) hs
theorem cntN_perm {l l' : List Nat} (h : l.Perm l') (x : Nat) : cntN l x = cntN l' x := h.countP_eq _

theorem unr_rkL : ∀ {l us : List Nat}, l.Perm us → Sorted us → unr us.length us (rkL l) = l
  | [], us, h, _ => by
    have : us = [] := h.symm.eq_nil
    subst this
    rfl
  | x :: r, us, h, hs => by
    have hl : us.length = r.length + 1 := by rw [← h.length_eq]; rfl
    have hr := rkL_lt r
    have hi : rkL (x :: r) / fct r.length = cntN us x := by
      rw [← cntN_perm h, cntN_self, rkL, Nat.add_comm, Nat.add_mul_div_right _ _ (fct_pos _), Nat.div_eq_of_lt hr, Nat.zero_add]
    have hm : rkL (x :: r) % fct r.length = rkL r := by
      rw [rkL, Nat.add_comm, Nat.add_mul_mod_self_right, Nat.mod_eq_of_lt hr]
    have hx := sorted_at hs (h.mem_iff.1 (List.mem_cons_self ..))
    have hlt : cntN us x < us.length := by
      have h1 : cntN r x ≤ r.length := List.countP_le_length
      rw [← cntN_perm h, cntN_self]
      omega
    have hp := perm_pick hlt
    rw [hx] at hp
    have hp2 : r.Perm (us.take (cntN us x) ++ us.drop (cntN us x + 1)) := (hp.trans h.symm).symm.cons_inv
    have ih := unr_rkL hp2 (sorted_pick hs _)
    rw [← hp2.length_eq] at ih
    rw [hl, unr, hi, hm, hx, ih]

theorem unr_spec : ∀ (m : Nat) {us : List Nat} {r : Nat}, us.length = m → Sorted us → r < fct m → (unr m us r).Perm us ∧ rkL (unr m us r) = r
  | 0, us, r, hl, _, hr => by
    have : us = [] := List.eq_nil_of_length_eq_zero hl
    subst this
    simp [fct] at hr
    subst hr
    exact ⟨List.Perm.nil, rfl⟩
  | m + 1, us, r, hl, hs, hr => by
    have hi : r / fct m < us.length := by
      rw [hl]
      rw [fct] at hr
      exact Nat.div_lt_of_lt_mul (by rw [Nat.mul_comm]; exact hr)
    have hl' : (us.take (r / fct m) ++ us.drop (r / fct m + 1)).length = m := by simp; omega
    have ih := unr_spec m hl' (sorted_pick hs (r / fct m)) (Nat.mod_lt r (fct_pos m))
    have hp : (unr (m + 1) us r).Perm us := (List.Perm.cons _ ih.1).trans (perm_pick hi)
    refine ⟨hp, ?_⟩
    rw [unr, rkL, ih.2, ih.1.length_eq, hl', ← cntN_self, cntN_perm ((List.Perm.cons _ ih.1).trans (perm_pick hi)), cnt_sorted hs hi, Nat.mul_comm]
    exact Nat.div_add_mod r (fct m)

/-- slices.Compare. -/
def cmpI : List Int → List Int → Int
  | [], [] => 0
  | [], _ :: _ => -1
  | _ :: _, [] => 1
  | x :: r, y :: s => if x < y then -1 else if y < x then 1 else cmpI r s

theorem countP_strict {p q : Nat → Bool} : ∀ {l : List Nat} {a : Nat}, (∀ x, p x = true → q x = true) → a ∈ l → q a = true → p a = false → l.countP p < l.countP q
  | x :: t, a, h, ha, hq, hp => by
    have hle : t.countP p ≤ t.countP q := List.countP_mono_left (fun x _ => h x)
    rw [List.countP_cons, List.countP_cons]
    rcases List.mem_cons.1 ha with rfl | ha
    · rw [hq, hp]
      simp
      omega
    · have ih := countP_strict h ha hq hp
      by_cases hx : p x = true
      · rw [hx, h x hx]
        simpa using ih
      · rw [if_neg hx]
        omega
theorem rkL_lex : ∀ {l l' : List Nat}, l.Perm l' → (rkL l < rkL l' ↔ cmpI (zs l) (zs l') < 0)
  | [], l', h => by
    have : l' = [] := h.symm.eq_nil
    subst this
    simp [rkL, zs, cmpI]
  | x :: r, [], h => by
    have := h.length_eq
    simp at this
  | x :: r, y :: s, h => by
    have hl : r.length = s.length := by have := h.length_eq; simpa using this
    have key : ∀ {x y : Nat} {r s : List Nat}, (x :: r).Perm (y :: s) → x < y → rkL (x :: r) < rkL (y :: s) := by
      intro x y r s h hxy
      have hl : r.length = s.length := by have := h.length_eq; simpa using this
      have h1 : cntN (x :: r) x < cntN (y :: s) y := by
        rw [cntN_perm h x]
        unfold cntN
        exact countP_strict (a := x) (fun z hz => by simp at hz ⊢; omega) (h.mem_iff.1 (List.mem_cons_self ..)) (by simpa using hxy) (by simp)
      rw [cntN_self, cntN_self] at h1
      have h2 := rkL_lt r
      rw [rkL, rkL, ← hl]
      have h3 := Nat.mul_le_mul_right (fct r.length) (show cntN r x + 1 ≤ cntN s y from h1)
      rw [Nat.add_mul] at h3
      omega
    have ex : zs (x :: r) = (x : Int) :: zs r := rfl
    have ey : zs (y :: s) = (y : Int) :: zs s := rfl
    rw [ex, ey, cmpI]
    rcases Nat.lt_trichotomy x y with hxy | hxy | hxy
    · rw [if_pos (by omega)]
      exact ⟨fun _ => by decide, fun _ => key h hxy⟩
    · subst hxy
      rw [if_neg (by omega), if_neg (by omega), ← rkL_lex h.cons_inv, rkL, rkL, hl, cntN_perm h.cons_inv]
      omega
    · rw [if_neg (by omega), if_pos (by omega)]
      have := key h.symm hxy
      exact ⟨fun h => by omega, fun h => by omega⟩
theorem isP.perm {a : List Nat} (h : isP a) : a.Perm (List.range a.length) := by
  refine (List.perm_ext_iff_of_nodup h.2 List.nodup_range).2 fun x => ?_
  rw [List.mem_range]
  exact ⟨fun hx => h.1 x hx, fun hx => h.mem hx⟩
theorem range_sorted (n : Nat) : Sorted (List.range n) := List.pairwise_lt_range
end Go.Proofs.Ytihpmdfeonphpaa
/- Plain mathematics: cycles of a permutation. -/
namespace Go.Proofs.Ytihpmdfeonphpaa
set_option linter.unusedVariables false
set_option linter.unusedSimpArgs false

/-- a applied t times to s. -/
def it (a : List Nat) : Nat → Nat → Nat
  | 0, s => s
  | t + 1, s => a.getD (it a t s) 0
theorem it_lt {a : List Nat} (h : isP a) {s : Nat} (hs : s < a.length) : ∀ t, it a t s < a.length
  | 0 => hs
  | t + 1 => h.lt (it_lt h hs t)
theorem it_inj {a : List Nat} (h : isP a) {s r : Nat} (hs : s < a.length) (hr : r < a.length) : ∀ t, it a t s = it a t r → s = r
  | 0, e => e
  | t + 1, e => it_inj h hs hr t (h.inj (it_lt h hs t) (it_lt h hr t) e)
theorem it_add (a : List Nat) (s : Nat) : ∀ t u, it a (t + u) s = it a t (it a u s)
  | 0, u => by rw [Nat.zero_add]; rfl
  | t + 1, u => by rw [show t + 1 + u = (t + u) + 1 from by omega, it, it_add a s t u, it]
theorem it_back {a : List Nat} (h : isP a) {s : Nat} (hs : s < a.length) {t u : Nat} (e : it a (t + u) s = it a t s) : it a u s = s := by
  rw [it_add] at e
  exact it_inj h (it_lt h hs u) hs t e

/-- The first number from p on, among f, that has P. -/
def srch (P : Nat → Bool) : Nat → Nat → Nat
  | 0, p => p
  | f + 1, p => if P p then p else srch P f (p + 1)
theorem srch_spec (P : Nat → Bool) : ∀ (f p : Nat), (∃ q, p ≤ q ∧ q < p + f ∧ P q = true) → p ≤ srch P f p ∧ srch P f p < p + f ∧ P (srch P f p) = true ∧ ∀ t, p ≤ t → t < srch P f p → P t = false
  | 0, p, ⟨q, h1, h2, _⟩ => by omega
  | f + 1, p, ⟨q, h1, h2, h3⟩ => by
    rw [srch]
    by_cases hp : P p = true
    · rw [if_pos hp]
      exact ⟨by omega, by omega, hp, fun t _ _ => by omega⟩
    · rw [if_neg hp]
      have hq : q ≠ p := fun e => hp (e ▸ h3)
      obtain ⟨a, b, c, d⟩ := srch_spec P f (p + 1) ⟨q, by omega, by omega, h3⟩
      refine ⟨by omega, by omega, c, fun t h4 h5 => ?_⟩
      by_cases e : t = p
      · subst e; simpa using hp
      · exact d t (by omega) h5

/-- The length of the cycle of s. -/
def perOf (a : List Nat) (s : Nat) : Nat := srch (fun p => it a p s == s) a.length 1
theorem per_ex {a : List Nat} (h : isP a) {s : Nat} (hs : s < a.length) : ∃ q, 1 ≤ q ∧ q < 1 + a.length ∧ it a q s = s := by
  apply Classical.byContradiction
  intro hn
  have hnd : ((List.range (a.length + 1)).map fun t => it a t s).Nodup := by
    rw [List.nodup_iff_pairwise_ne, List.pairwise_map]
    refine List.Pairwise.imp_of_mem ?_ (List.pairwise_lt_range (n := a.length + 1))
    intro i j hi hj hij e
    simp at hi hj
    refine hn ⟨j - i, by omega, by omega, it_back h hs (t := i) ?_⟩
    rw [show i + (j - i) = j from by omega]
    exact e.symm
  have := nodup_length_le a.length _ hnd (fun x hx => by
    obtain ⟨t, _, rfl⟩ := List.mem_map.1 hx
    exact it_lt h hs t)
  simp at this
  omega
theorem per_spec {a : List Nat} (h : isP a) {s : Nat} (hs : s < a.length) : 1 ≤ perOf a s ∧ perOf a s ≤ a.length ∧ it a (perOf a s) s = s ∧ ∀ t, 1 ≤ t → t < perOf a s → it a t s ≠ s := by
  obtain ⟨q, h1, h2, h3⟩ := per_ex h hs
  obtain ⟨x, y, z, u⟩ := srch_spec (fun p => it a p s == s) a.length 1 ⟨q, h1, h2, by simpa using h3⟩
  refine ⟨x, by unfold perOf; omega, by unfold perOf; simpa using z, fun t ht1 ht2 => ?_⟩
  have := u t ht1 ht2
  simpa using this

/-- The cycle of s. -/
def cyc (a : List Nat) (s : Nat) : List Nat := (List.range (perOf a s)).map fun t => it a t s
theorem cyc_length (a : List Nat) (s : Nat) : (cyc a s).length = perOf a s := by simp [cyc]
theorem it_mul {a : List Nat} {s p : Nat} (hp : it a p s = s) : ∀ k, it a (k * p) s = s
  | 0 => by rw [Nat.zero_mul]; rfl
  | k + 1 => by rw [Nat.add_mul, Nat.one_mul, it_add, hp, it_mul hp k]
theorem it_mod {a : List Nat} {s p : Nat} (hp : it a p s = s) (t : Nat) : it a (t % p) s = it a t s := by
  conv => rhs; rw [← Nat.mod_add_div t p, it_add, Nat.mul_comm, it_mul hp]
theorem mem_cyc {a : List Nat} (h : isP a) {s x : Nat} (hs : s < a.length) : x ∈ cyc a s ↔ ∃ t, x = it a t s := by
  obtain ⟨h1, _, h3, _⟩ := per_spec h hs
  constructor
  · intro hx
    obtain ⟨t, _, rfl⟩ := List.mem_map.1 hx
    exact ⟨t, rfl⟩
  · rintro ⟨t, rfl⟩
    rw [← it_mod h3]
    exact List.mem_map.2 ⟨t % perOf a s, by simpa using Nat.mod_lt t (by omega), rfl⟩
theorem cyc_lt {a : List Nat} (h : isP a) {s x : Nat} (hs : s < a.length) (hx : x ∈ cyc a s) : x < a.length := by
  obtain ⟨t, rfl⟩ := (mem_cyc h hs).1 hx
  exact it_lt h hs t
theorem cyc_symm {a : List Nat} (h : isP a) {s x : Nat} (hs : s < a.length) (hx : x ∈ cyc a s) : s ∈ cyc a x := by
  have hxl := cyc_lt h hs hx
  obtain ⟨t, ht, rfl⟩ := List.mem_map.1 hx
  simp at ht
  refine (mem_cyc h hxl).2 ⟨perOf a s - t, ?_⟩
  rw [← it_add, show perOf a s - t + t = perOf a s from by omega]
  exact (per_spec h hs).2.2.1.symm
theorem cyc_trans {a : List Nat} (h : isP a) {s x y : Nat} (hs : s < a.length) (hx : x ∈ cyc a s) (hy : y ∈ cyc a x) : y ∈ cyc a s := by
  have hxl := cyc_lt h hs hx
  obtain ⟨t, rfl⟩ := (mem_cyc h hs).1 hx
  obtain ⟨u, rfl⟩ := (mem_cyc h hxl).1 hy
  exact (mem_cyc h hs).2 ⟨u + t, (it_add a s u t).symm⟩
theorem cyc_self {a : List Nat} (h : isP a) {s : Nat} (hs : s < a.length) : s ∈ cyc a s := (mem_cyc h hs).2 ⟨0, rfl⟩

/-- Whether i is the smallest of its cycle. -/
def isMin (a : List Nat) (i : Nat) : Bool := decide (∀ x ∈ cyc a i, i ≤ x)
/-- The cycles that begin below k, of at least two elements. -/
def cycsTo (a : List Nat) (k : Nat) : List (List Nat) := ((List.range k).filter fun i => isMin a i && decide (1 < perOf a i)).map (cyc a)
def cycs (a : List Nat) : List (List Nat) := cycsTo a a.length
theorem cycsTo_succ (a : List Nat) (k : Nat) : cycsTo a (k + 1) = cycsTo a k ++ if (isMin a k && decide (1 < perOf a k)) = true then [cyc a k] else [] := by
  unfold cycsTo
  rw [List.range_succ, List.filter_append, List.map_append]
  by_cases h : (isMin a k && decide (1 < perOf a k)) = true
  · rw [if_pos h]; simp only [List.filter_cons, List.filter_nil, h, if_true]; rfl
  · rw [if_neg h]; simp only [List.filter_cons, List.filter_nil, h, if_false]; rfl
/-- What has been seen: all in cycles of elements below k. -/
def SeenTo (a : List Nat) (k : Nat) (M : List Int) : Prop := ∀ x : Nat, (x : Int) ∈ M ↔ ∃ s, s < k ∧ x ∈ cyc a s
theorem seen_min {a : List Nat} (h : isP a) {k : Nat} (hk : k < a.length) {M : List Int} (hM : SeenTo a k M) : ((k : Int) ∈ M) ↔ isMin a k = false := by
  rw [hM k]
  constructor
  · rintro ⟨s, hs, hks⟩
    unfold isMin
    rw [decide_eq_false_iff_not]
    intro hall
    have := hall s (cyc_symm h (by omega) hks)
    omega
  · intro hm
    unfold isMin at hm
    rw [decide_eq_false_iff_not] at hm
    apply Classical.byContradiction
    intro hn
    refine hm fun x hx => ?_
    apply Classical.byContradiction
    intro hlt
    exact hn ⟨x, by omega, cyc_symm h hk hx⟩
theorem seen_skip {a : List Nat} (h : isP a) {k : Nat} (hk : k < a.length) {M : List Int} (hM : SeenTo a k M) (hs : (k : Int) ∈ M) : SeenTo a (k + 1) M := by
  intro x
  rw [hM x]
  constructor
  · rintro ⟨s, h1, h2⟩
    exact ⟨s, by omega, h2⟩
  · rintro ⟨s, h1, h2⟩
    by_cases e : s = k
    · subst e
      obtain ⟨r, hr, hkr⟩ := (hM s).1 hs
      exact ⟨r, hr, cyc_trans h (by omega) hkr h2⟩
    · exact ⟨s, by omega, h2⟩
theorem seen_add {a : List Nat} {k : Nat} {M : List Int} (hM : SeenTo a k M) : SeenTo a (k + 1) (M ++ zs (cyc a k)) := by
  intro x
  rw [List.mem_append, hM x]
  have e : (x : Int) ∈ zs (cyc a k) ↔ x ∈ cyc a k := by
    unfold zs
    rw [List.mem_map]
    constructor
    · rintro ⟨y, hy, e⟩
      have : y = x := Int.ofNat.inj e
      rw [← this]; exact hy
    · intro hx
      exact ⟨x, hx, rfl⟩
  rw [e]
  constructor
  · rintro (⟨s, h1, h2⟩ | h2)
    · exact ⟨s, by omega, h2⟩
    · exact ⟨k, by omega, h2⟩
  · rintro ⟨s, h1, h2⟩
    by_cases e : s = k
    · subst e; exact .inr h2
    · exact .inl ⟨s, by omega, h2⟩
end Go.Proofs.Ytihpmdfeonphpaa
/- Plain mathematics: powers and the order of a permutation. -/
namespace Go.Proofs.Ytihpmdfeonphpaa
set_option linter.unusedVariables false
set_option linter.unusedSimpArgs false

/-- The power of a permutation. -/
def powN (a : List Nat) (m : Nat) : List Nat := (List.range a.length).map (it a m)
theorem powN_length (a : List Nat) (m : Nat) : (powN a m).length = a.length := by simp [powN]
theorem powN_zero (a : List Nat) : powN a 0 = List.range a.length := by
  unfold powN
  conv => rhs; rw [← List.map_id (List.range a.length)]
  rfl
theorem powN_succ (a : List Nat) (m : Nat) : comp (powN a m) a = powN a (m + 1) := by
  unfold comp powN
  rw [List.map_map]
  rfl
theorem powN_getD {a : List Nat} {m j : Nat} (hj : j < a.length) : (powN a m).getD j 0 = it a m j := by
  simp [powN, List.getD, hj]
theorem powN_lt {a : List Nat} (h : isP a) (m : Nat) : ∀ x ∈ powN a m, x < a.length := by
  intro x hx
  obtain ⟨s, hs, rfl⟩ := List.mem_map.1 hx
  exact it_lt h (List.mem_range.1 hs) m
theorem powN_isP {a : List Nat} (h : isP a) (m : Nat) : isP (powN a m) := by
  refine isP_of ?_ ?_
  · intro j hj
    rw [powN_length] at hj ⊢
    rw [powN_getD hj]
    exact it_lt h hj m
  · intro i j hi hj he
    rw [powN_length] at hi hj
    rw [powN_getD hi, powN_getD hj] at he
    exact it_inj h hi hj m he
theorem powN_comp {a : List Nat} (h : isP a) (u v : Nat) : comp (powN a u) (powN a v) = powN a (u + v) := by
  refine list_ext_getD (by simp [comp_length, powN_length]) ?_
  intro j hj
  rw [comp_length, powN_length] at hj
  rw [comp_getD (by rw [powN_length]; exact hj), powN_getD hj, powN_getD (it_lt h hj u), powN_getD hj, Nat.add_comm u v, it_add]

/-- a applied t times is the identity on s just if the length of its cycle divides t. -/
theorem it_self {a : List Nat} (h : isP a) {s : Nat} (hs : s < a.length) (t : Nat) : it a t s = s ↔ perOf a s ∣ t := by
  obtain ⟨h1, _, h3, h4⟩ := per_spec h hs
  constructor
  · intro e
    rw [← it_mod h3] at e
    have hlt := Nat.mod_lt t (show perOf a s > 0 by omega)
    rcases Nat.eq_zero_or_pos (t % perOf a s) with h0 | h0
    · exact Nat.dvd_of_mod_eq_zero h0
    · exact absurd e (h4 _ h0 hlt)
  · rintro ⟨k, rfl⟩
    rw [Nat.mul_comm]
    exact it_mul h3 k
/-- All of one cycle have cycles of one length. -/
theorem per_cyc {a : List Nat} (h : isP a) {s x : Nat} (hs : s < a.length) (hx : x ∈ cyc a s) : perOf a x = perOf a s := by
  have key : ∀ {s x : Nat}, s < a.length → x ∈ cyc a s → perOf a x ∣ perOf a s := by
    intro s x hs hx
    have hxl := cyc_lt h hs hx
    obtain ⟨t, rfl⟩ := (mem_cyc h hs).1 hx
    refine (it_self h hxl _).1 ?_
    rw [← it_add, Nat.add_comm, it_add, (per_spec h hs).2.2.1]
  exact Nat.dvd_antisymm (key hs hx) (key (cyc_lt h hs hx) (cyc_symm h hs hx))
/-- Each cycle has a smallest element. -/
theorem min_ex {a : List Nat} (h : isP a) {s : Nat} (hs : s < a.length) : ∃ m, m < a.length ∧ m ∈ cyc a s ∧ isMin a m = true := by
  have hf : ∀ (n : Nat), (∃ x, x ∈ cyc a s ∧ x < n) → ∃ m, m ∈ cyc a s ∧ ∀ x ∈ cyc a s, m ≤ x := by
    intro n
    induction n with
    | zero => rintro ⟨x, _, hx⟩; omega
    | succ n ih =>
      rintro ⟨x, hx, hlt⟩
      by_cases hn : ∃ y, y ∈ cyc a s ∧ y < n
      · exact ih hn
      · refine ⟨x, hx, fun y hy => ?_⟩
        apply Classical.byContradiction
        intro hc
        exact hn ⟨y, hy, by omega⟩
  obtain ⟨m, hm, hall⟩ := hf a.length ⟨s, cyc_self h hs, hs⟩
  have hml := cyc_lt h hs hm
  refine ⟨m, hml, hm, ?_⟩
  unfold isMin
  rw [decide_eq_true_iff]
  intro x hx
  exact hall x (cyc_trans h hs hm hx)

/-- The least common multiple of the lengths. -/
def ordL (xss : List (List Nat)) : Nat := xss.foldl (fun o c => Nat.lcm o c.length) 1
theorem foldl_lcm_dvd : ∀ (xss : List (List Nat)) (o m : Nat), xss.foldl (fun o c => Nat.lcm o c.length) o ∣ m ↔ o ∣ m ∧ ∀ c ∈ xss, c.length ∣ m
  | [], o, m => by simp
  | c :: r, o, m => by
    rw [List.foldl_cons, foldl_lcm_dvd r, Nat.lcm_dvd_iff]
    simp only [List.mem_cons, forall_eq_or_imp]
    exact ⟨fun ⟨⟨a, b⟩, c⟩ => ⟨a, b, c⟩, fun ⟨a, b, c⟩ => ⟨⟨a, b⟩, c⟩⟩
theorem ordL_dvd (xss : List (List Nat)) (m : Nat) : ordL xss ∣ m ↔ ∀ c ∈ xss, c.length ∣ m := by
  unfold ordL
  rw [foldl_lcm_dvd]
  exact ⟨fun h => h.2, fun h => ⟨Nat.one_dvd m, h⟩⟩
/-- The order divides a number just if this power is the identity. -/
theorem ord_dvd {a : List Nat} (h : isP a) (m : Nat) : ordL (cycs a) ∣ m ↔ powN a m = List.range a.length := by
  rw [ordL_dvd]
  constructor
  · intro hc
    refine list_ext_getD (by simp [powN_length]) ?_
    intro s hs
    rw [powN_length] at hs
    rw [powN_getD hs, range_getD hs, it_self h hs]
    obtain ⟨m0, hm0, hmem, hmin⟩ := min_ex h hs
    rw [← per_cyc h hs hmem]
    by_cases h1 : 1 < perOf a m0
    · rw [← cyc_length]
      refine hc _ (List.mem_map.2 ⟨m0, List.mem_filter.2 ⟨by simpa using hm0, by simp [hmin, h1]⟩, rfl⟩)
    · have := (per_spec h hm0).1
      rw [show perOf a m0 = 1 from by omega]
      exact Nat.one_dvd m
  · intro e c hc
    obtain ⟨s, hs, rfl⟩ := List.mem_map.1 hc
    have hs' : s < a.length := List.mem_range.1 (List.mem_filter.1 hs).1
    rw [cyc_length, ← it_self h hs', ← powN_getD hs', e, range_getD hs']
theorem powN_mod {a : List Nat} (h : isP a) {u v : Nat} (hd : ordL (cycs a) ∣ v) : powN a (u + v) = powN a u := by
  rw [← powN_comp h, (ord_dvd h v).1 hd]
  refine list_ext_getD (by simp [comp_length]) ?_
  intro j hj
  rw [comp_length, powN_length] at hj
  rw [comp_getD (by rw [powN_length]; exact hj), range_getD]
  rw [powN_getD hj]
  exact it_lt h hj u
/-- Powers with exponents that differ by a multiple of the order are the same. -/
theorem powN_congr {a : List Nat} (h : isP a) {u v : Nat} (e : u % ordL (cycs a) = v % ordL (cycs a)) : powN a u = powN a v := by
  have key : ∀ u, powN a u = powN a (u % ordL (cycs a)) := by
    intro u
    conv => lhs; rw [← Nat.mod_add_div u (ordL (cycs a))]
    exact powN_mod h (Nat.dvd_mul_right _ _)
  rw [key u, key v, e]
/-- The power with an integer as its exponent. -/
def powZ (a : List Nat) (k : Int) : List Nat := powN a (k % (ordL (cycs a) : Int)).toNat
theorem powZ_add {a : List Nat} (h : isP a) (ho : 0 < ordL (cycs a)) (i k : Int) : comp (powZ a i) (powZ a k) = powZ a (i + k) := by
  unfold powZ
  rw [powN_comp h]
  refine powN_congr h ?_
  generalize ordL (cycs a) = o at *
  have h1 := Int.emod_nonneg i (show (o : Int) ≠ 0 by omega)
  have h2 := Int.emod_nonneg k (show (o : Int) ≠ 0 by omega)
  have h3 := Int.emod_nonneg (i + k) (show (o : Int) ≠ 0 by omega)
  have e : (((i % (o : Int)).toNat + (k % (o : Int)).toNat : Nat) : Int) % (o : Int) = (((i + k) % (o : Int)).toNat : Int) % (o : Int) := by
    rw [Int.natCast_add, Int.toNat_of_nonneg h1, Int.toNat_of_nonneg h2, Int.toNat_of_nonneg h3, Int.emod_emod_of_dvd _ (Int.dvd_refl _), Int.add_emod i k]
  exact_mod_cast e
theorem powZ_id {a : List Nat} (h : isP a) (ho : 0 < ordL (cycs a)) {j : Nat} (h1 : 1 ≤ j) (h2 : j ≤ ordL (cycs a)) : powZ a (j : Int) = List.range a.length ↔ j = ordL (cycs a) := by
  unfold powZ
  rw [← ord_dvd h]
  have e : ((j : Int) % (ordL (cycs a) : Int)).toNat = j % ordL (cycs a) := by
    rw [← Int.natCast_emod]; rfl
  rw [e]
  generalize ordL (cycs a) = o at *
  constructor
  · intro hd
    apply Classical.byContradiction
    intro hne
    rw [Nat.mod_eq_of_lt (by omega)] at hd
    have := Nat.le_of_dvd (by omega) hd
    omega
  · rintro rfl
    rw [Nat.mod_self]
    exact Nat.dvd_zero _
theorem comp_range {a : List Nat} {n : Nat} (h : ∀ x ∈ a, x < n) : comp a (List.range n) = a := by
  refine list_ext_getD (by simp [comp_length]) ?_
  intro j hj
  rw [comp_length] at hj
  rw [comp_getD hj, range_getD (h _ (getD_mem hj))]
theorem range_comp (a : List Nat) : comp (List.range a.length) a = a := by
  refine list_ext_getD (by simp [comp_length]) ?_
  intro j hj
  rw [comp_length, List.length_range] at hj
  rw [comp_getD (by simpa using hj), range_getD hj]
theorem powN_one (a : List Nat) : powN a 1 = a := by rw [← powN_succ, powN_zero, range_comp]
theorem it_sq {b : List Nat} (h : isP b) {s : Nat} (hs : s < b.length) : ∀ j, it (comp b b) j s = it b (2 * j) s
  | 0 => rfl
  | j + 1 => by
    rw [it, it_sq h hs j, comp_getD (it_lt h hs _), show 2 * (j + 1) = (2 * j + 1) + 1 from by omega]
    rfl
theorem powN_sq {b : List Nat} (h : isP b) (j : Nat) : powN (comp b b) j = powN b (2 * j) := by
  unfold powN
  rw [comp_length]
  exact List.map_congr_left fun s hs => it_sq h (List.mem_range.1 hs) j
/-- One round of Times. -/
theorem times_step {o b : List Nat} {m n : Nat} (hb : isP b) (ho : isP o) (hol : o.length = n) (hbl : b.length = n) :
    comp o (powN b m) = if m % 2 = 1 then comp (comp o b) (powN (comp b b) (m / 2)) else comp o (powN (comp b b) (m / 2)) := by
  rw [powN_sq hb]
  by_cases h : m % 2 = 1
  · rw [if_pos h, comp_assoc (fun x hx => by have := ho.1 x hx; omega)]
    congr 1
    have e := powN_comp hb 1 (2 * (m / 2))
    rw [powN_one] at e
    rw [e]
    congr 1
    omega
  · rw [if_neg h]
    congr 2
    omega
theorem it_inv {a : List Nat} (h : isP a) {s : Nat} (hs : s < a.length) : ∀ t, it (inv a) t (it a t s) = s
  | 0 => rfl
  | t + 1 => by
    have e : it (inv a) (t + 1) (it a (t + 1) s) = it (inv a) t ((inv a).getD (it a (t + 1) s) 0) := by
      rw [it_add (inv a) (it a (t + 1) s) t 1]
      rfl
    rw [e, show it a (t + 1) s = a.getD (it a t s) 0 from rfl, inv_getD_self h (it_lt h hs t), it_inv h hs t]
theorem powZ_neg {a : List Nat} (h : isP a) (ho : 0 < ordL (cycs a)) (t : Nat) : powN (inv a) t = powZ a (-(t : Int)) := by
  unfold powZ
  generalize he : (-(t : Int) % (ordL (cycs a) : Int)).toNat = e
  have hd : ordL (cycs a) ∣ e + t := by
    have h1 := Int.emod_nonneg (-(t : Int)) (show (ordL (cycs a) : Int) ≠ 0 by omega)
    have h2 : ((e : Nat) : Int) = -(t : Int) % (ordL (cycs a) : Int) := by omega
    have h3 : (ordL (cycs a) : Int) ∣ ((e + t : Nat) : Int) := by
      refine Int.dvd_of_emod_eq_zero ?_
      rw [Int.natCast_add, h2, Int.emod_add_emod, Int.add_left_neg]
      exact Int.zero_emod _
    exact Int.natCast_dvd_natCast.1 h3
  have hid := (ord_dvd h (e + t)).1 hd
  refine list_ext_getD (by simp [powN_length, inv_length]) ?_
  intro j hj
  rw [powN_length, inv_length] at hj
  obtain ⟨s, hs, rfl⟩ : ∃ s, s < a.length ∧ it a t s = j := by
    obtain ⟨s, hs, e⟩ := (powN_isP h t).surj (i := j) (by rw [powN_length]; exact hj)
    rw [powN_length] at hs
    rw [powN_getD hs] at e
    exact ⟨s, hs, e⟩
  rw [powN_getD (by rw [inv_length]; exact hj), powN_getD hj, it_inv h hs, ← it_add]
  have := powN_getD (a := a) (m := e + t) hs
  rw [hid, range_getD hs] at this
  exact this
theorem powZ_nat {a : List Nat} (h : isP a) (t : Nat) : powN a t = powZ a (t : Int) := by
  unfold powZ
  refine powN_congr h ?_
  rw [← Int.natCast_emod, Int.toNat_natCast, Nat.mod_mod]
/-- What Times starts from. -/
theorem times_pos {a : List Nat} (h : isP a) (t : Nat) : comp (List.range a.length) (powN a t) = powZ a (t : Int) := by
  rw [← powZ_nat h]
  have := range_comp (powN a t)
  rw [powN_length] at this
  exact this
theorem times_neg {a : List Nat} (h : isP a) (ho : 0 < ordL (cycs a)) (m : Nat) : comp (inv a) (powN (inv a) m) = powZ a (-((m : Int) + 1)) := by
  have e := powN_comp (inv_isP h) 1 m
  rw [powN_one] at e
  rw [e, powZ_neg h ho, show ((1 + m : Nat) : Int) = (m : Int) + 1 from by omega]

end Go.Proofs.Ytihpmdfeonphpaa
/- Words in free groups: the reduced form. Letters are integers; -x is the inverse of x. -/
namespace Go.Proofs.Ytihpmdfeonphpaa
set_option linter.unusedVariables false
set_option linter.unusedSimpArgs false

/-- A letter in front of a reduced word. -/
def cns (x : Int) : List Int → List Int
  | [] => [x]
  | y :: t => if x = -y then t else x :: y :: t
theorem cns_cons (x y : Int) (t : List Int) : cns x (y :: t) = if x = -y then t else x :: y :: t := rfl
/-- The letters of a word act on a reduced word. -/
def act (w r : List Int) : List Int := w.foldr cns r
/-- The reduced form. -/
def nf (w : List Int) : List Int := act w []
/-- No letter is followed by its inverse. -/
def Red : List Int → Prop
  | [] => True
  | [_] => True
  | x :: y :: t => x ≠ -y ∧ Red (y :: t)
theorem Red.tail {x : Int} {r : List Int} (h : Red (x :: r)) : Red r := by
  cases r with
  | nil => trivial
  | cons y t => exact h.2
theorem Red.cons {x y : Int} {t : List Int} (h : Red (y :: t)) (hne : x ≠ -y) : Red (x :: y :: t) := ⟨hne, h⟩
theorem cns_red {x : Int} {r : List Int} (h : Red r) : Red (cns x r) := by
  cases r with
  | nil => trivial
  | cons y t =>
    rw [cns_cons]
    by_cases e : x = -y
    · rw [if_pos e]; exact h.tail
    · rw [if_neg e]; exact ⟨e, h⟩
theorem act_red {w r : List Int} (h : Red r) : Red (act w r) := by
  induction w with
  | nil => exact h
  | cons x w ih => exact cns_red ih
theorem nf_red (w : List Int) : Red (nf w) := act_red trivial
theorem cns_of_red {x : Int} {r : List Int} (h : Red (x :: r)) : cns x r = x :: r := by
  cases r with
  | nil => rfl
  | cons y t => rw [cns_cons, if_neg h.1]
theorem nf_of_red : ∀ {r : List Int}, Red r → nf r = r
  | [], _ => rfl
  | x :: r, h => by
    show cns x (nf r) = x :: r
    rw [nf_of_red h.tail, cns_of_red h]
theorem nf_nf (w : List Int) : nf (nf w) = nf w := nf_of_red (nf_red w)
theorem cns_cancel (x : Int) {r : List Int} (h : Red r) : cns x (cns (-x) r) = r := by
  cases r with
  | nil => simp [cns]
  | cons y t =>
    by_cases e : -x = -y
    · have e' : x = y := by omega
      subst e'
      rw [cns_cons, if_pos rfl]
      exact cns_of_red h
    · have e1 : cns (-x) (y :: t) = -x :: y :: t := by rw [cns_cons, if_neg e]
      rw [e1, cns_cons, if_pos (by omega)]
theorem cns_cancel' (x : Int) {r : List Int} (h : Red r) : cns (-x) (cns x r) = r := by
  have := cns_cancel (-x) h
  rwa [Int.neg_neg] at this
theorem act_append (a b r : List Int) : act (a ++ b) r = act a (act b r) := by simp [act]
theorem nf_append (a b : List Int) : nf (a ++ b) = act a (nf b) := act_append a b []
theorem act_cons (x : Int) (a r : List Int) : act (x :: a) r = cns x (act a r) := rfl
theorem act_nf {a r : List Int} (h : Red r) : act (nf a) r = act a r := by
  induction a with
  | nil => rfl
  | cons x a ih =>
    rw [act_cons, ← ih]
    show act (cns x (nf a)) r = _
    cases hn : nf a with
    | nil => rfl
    | cons y t =>
      rw [cns_cons]
      by_cases e : x = -y
      · rw [if_pos e, act_cons, e, cns_cancel' y (act_red h)]
      · rw [if_neg e]; rfl
theorem nf_left (a b : List Int) : nf (nf a ++ b) = nf (a ++ b) := by rw [nf_append, nf_append, act_nf (nf_red b)]
theorem nf_right (a b : List Int) : nf (a ++ nf b) = nf (a ++ b) := by rw [nf_append, nf_append, nf_nf]
theorem nf_mid (a b c : List Int) : nf (a ++ nf b ++ c) = nf (a ++ b ++ c) := by
  rw [List.append_assoc, ← nf_right, nf_left, nf_right, List.append_assoc]
/-- The product of reduced words is associative. -/
theorem nf_assoc (a b c : List Int) : nf (nf (a ++ b) ++ c) = nf (a ++ nf (b ++ c)) := by rw [nf_left, nf_right, List.append_assoc]
/-- The inverse word. -/
def invw (w : List Int) : List Int := (w.map fun x => -x).reverse
theorem invw_length (w : List Int) : (invw w).length = w.length := by simp [invw]
theorem invw_invw (w : List Int) : invw (invw w) = w := by simp [invw, Function.comp_def]
theorem invw_append (a b : List Int) : invw (a ++ b) = invw b ++ invw a := by simp [invw]
theorem invw_cons (x : Int) (a : List Int) : invw (x :: a) = invw a ++ [-x] := by simp [invw]
theorem act_invw (w : List Int) {r : List Int} (h : Red r) : act w (act (invw w) r) = r := by
  induction w generalizing r with
  | nil => rfl
  | cons x w ih =>
    rw [invw_cons, act_append, act_cons, ih (r := act [-x] r) (act_red h)]
    exact cns_cancel x h
theorem nf_mul_inv (w : List Int) : nf (w ++ invw w) = [] := by rw [nf_append]; exact act_invw w (r := []) trivial
theorem nf_inv_mul (w : List Int) : nf (invw w ++ w) = [] := by
  have := nf_mul_inv (invw w)
  rwa [invw_invw] at this

/-! ### deletions -/
/-- A pair of adjacent inverse letters is deleted. -/
def Del (a b : List Int) : Prop := ∃ p x s, a = p ++ x :: -x :: s ∧ b = p ++ s
inductive Dels : List Int → List Int → Prop
  | refl (a : List Int) : Dels a a
  | step {a b c : List Int} : Del a b → Dels b c → Dels a c
theorem Del.nf_eq {a b : List Int} (h : Del a b) : nf a = nf b := by
  obtain ⟨p, x, s, rfl, rfl⟩ := h
  rw [nf_append, nf_append]
  congr 1
  show cns x (cns (-x) (nf s)) = _
  rw [cns_cancel x (nf_red s)]
theorem Dels.nf_eq {a b : List Int} (h : Dels a b) : nf a = nf b := by
  induction h with
  | refl => rfl
  | step h _ ih => exact h.nf_eq.trans ih
theorem Dels.trans {a b c : List Int} (h : Dels a b) (h' : Dels b c) : Dels a c := by
  induction h with
  | refl => exact h'
  | step d _ ih => exact .step d (ih h')
theorem Del.app {a b : List Int} (h : Del a b) (p s : List Int) : Del (p ++ a ++ s) (p ++ b ++ s) := by
  obtain ⟨q, x, t, rfl, rfl⟩ := h
  exact ⟨p ++ q, x, t ++ s, by simp, by simp⟩
theorem Dels.app {a b : List Int} (h : Dels a b) (p s : List Int) : Dels (p ++ a ++ s) (p ++ b ++ s) := by
  induction h with
  | refl => exact .refl _
  | step d _ ih => exact .step (d.app p s) ih
theorem dels_nf : ∀ w : List Int, Dels w (nf w)
  | [] => .refl _
  | x :: w => by
    have h := (dels_nf w).app [x] []
    simp only [List.append_nil, List.singleton_append] at h
    refine h.trans ?_
    show Dels (x :: nf w) (cns x (nf w))
    cases hn : nf w with
    | nil => exact .refl _
    | cons y t =>
      rw [cns_cons]
      by_cases e : x = -y
      · rw [if_pos e]
        exact .step ⟨[], x, t, by rw [e]; simp, rfl⟩ (.refl _)
      · rw [if_neg e]; exact .refl _
/-- What is left of deletions, if it is reduced, is the reduced form. -/
theorem Dels.done {a b : List Int} (h : Dels a b) (hr : Red b) : b = nf a := by rw [h.nf_eq, nf_of_red hr]
theorem Del.reverse {a b : List Int} (h : Del a b) : Del a.reverse b.reverse := by
  obtain ⟨p, x, s, rfl, rfl⟩ := h
  exact ⟨s.reverse, -x, p.reverse, by simp, by simp⟩
theorem Dels.reverse {a b : List Int} (h : Dels a b) : Dels a.reverse b.reverse := by
  induction h with
  | refl => exact .refl _
  | step d _ ih => exact .step d.reverse ih
theorem red_iff {r : List Int} : Red r ↔ ∀ i, i + 1 < r.length → r.getD i 0 ≠ -r.getD (i + 1) 0 := by
  induction r with
  | nil => exact ⟨fun _ i h => by simp at h, fun _ => trivial⟩
  | cons x r ih =>
    cases r with
    | nil => exact ⟨fun _ i h => by simp at h, fun _ => trivial⟩
    | cons y t =>
      constructor
      · rintro ⟨h1, h2⟩ i hi
        cases i with
        | zero => simpa using h1
        | succ i => have := ih.1 h2 i (by simpa using hi); simpa using this
      · intro h
        refine ⟨by have := h 0 (by simp); simpa using this, ih.2 fun i hi => ?_⟩
        have := h (i + 1) (by simpa using hi)
        simpa using this
theorem Red.reverse {r : List Int} (h : Red r) : Red r.reverse := by
  rw [red_iff] at h ⊢
  intro i hi
  rw [List.length_reverse] at hi
  have := h (r.length - 2 - i) (by omega)
  have e1 : r.reverse.getD i 0 = r.getD (r.length - 2 - i + 1) 0 := by
    simp only [List.getD]
    rw [List.getElem?_reverse (by omega), show r.length - 1 - i = r.length - 2 - i + 1 by omega]
  have e2 : r.reverse.getD (i + 1) 0 = r.getD (r.length - 2 - i) 0 := by
    simp only [List.getD]
    rw [List.getElem?_reverse (by omega), show r.length - 1 - (i + 1) = r.length - 2 - i by omega]
  rw [e1, e2]
  intro e
  apply this
  omega
theorem nf_reverse (w : List Int) : nf w.reverse = (nf w).reverse := ((dels_nf w).reverse.done (nf_red w).reverse).symm
theorem Red.neg {r : List Int} (h : Red r) : Red (r.map fun x => -x) := by
  induction r with
  | nil => trivial
  | cons x r ih =>
    cases r with
    | nil => trivial
    | cons y t => exact ⟨fun e => h.1 (by simp only at e; omega), ih h.2⟩
theorem Red.invw {r : List Int} (h : Red r) : Red (invw r) := h.neg.reverse
theorem nf_invw (w : List Int) : nf (invw w) = invw (nf w) := by
  have h1 : nf (invw w ++ nf w) = [] := by rw [nf_right]; exact nf_inv_mul w
  have h2 : nf (nf (invw w ++ nf w) ++ invw (nf w)) = nf (invw w) := by
    rw [nf_left, List.append_assoc, ← nf_right, nf_mul_inv, List.append_nil]
  rw [h1, List.nil_append] at h2
  rw [← h2, nf_of_red (nf_red w).invw]
/-- A letter behind a reduced word. -/
def snc (r : List Int) (x : Int) : List Int := match r.getLast? with
  | none => [x]
  | some y => if y = -x then r.dropLast else r ++ [x]
theorem snc_rev (r : List Int) (x : Int) : (snc r x).reverse = cns x r.reverse := by
  rcases List.eq_nil_or_concat r with rfl | ⟨t, y, rfl⟩
  · simp [snc, cns]
  · simp only [snc, List.concat_eq_append, List.getLast?_append, List.getLast?_singleton, Option.some_or, List.reverse_append, List.reverse_cons, List.reverse_nil, List.nil_append, List.singleton_append, cns_cons, List.dropLast_concat]
    by_cases e : y = -x
    · rw [if_pos e, if_pos (by omega)]
    · rw [if_neg e, if_neg (by omega)]; simp
theorem foldl_snc (w : List Int) : w.foldl snc [] = nf w := by
  have h : ∀ (w r : List Int), (w.foldl snc r).reverse = act w.reverse r.reverse := fun w => by
    induction w with
    | nil => intro r; rfl
    | cons x w ih =>
      intro r
      rw [List.foldl_cons, ih, snc_rev, List.reverse_cons, act_append]
      rfl
  have := h w []
  rw [← List.reverse_reverse (w.foldl snc []), this]
  show (nf w.reverse).reverse = nf w
  rw [nf_reverse, List.reverse_reverse]
theorem Red.append_left {a b : List Int} (h : Red (a ++ b)) : Red a := by
  rw [red_iff] at h ⊢
  intro i hi
  have := h i (by simp; omega)
  simp only [List.getD] at this ⊢
  rwa [List.getElem?_append_left (by omega), List.getElem?_append_left (by omega)] at this
theorem Red.append_right {a b : List Int} (h : Red (a ++ b)) : Red b := by
  rw [red_iff] at h ⊢
  intro i hi
  have := h (a.length + i) (by simp; omega)
  simp only [List.getD] at this ⊢
  rwa [List.getElem?_append_right (by omega), List.getElem?_append_right (by omega), show a.length + i - a.length = i by omega, show a.length + i + 1 - a.length = i + 1 by omega] at this
theorem nf_len_le (w : List Int) : (nf w).length ≤ w.length := by
  induction w with
  | nil => exact Nat.le_refl _
  | cons x w ih =>
    show (cns x (nf w)).length ≤ _
    cases hn : nf w with
    | nil => simp [cns]
    | cons y t =>
      rw [hn] at ih
      rw [cns_cons]
      split
      · simp at ih ⊢; omega
      · simp at ih ⊢; omega
theorem nf_mem {w : List Int} {x : Int} (h : x ∈ nf w) : x ∈ w := by
  induction w with
  | nil => exact h
  | cons y w ih =>
    have h' : x ∈ cns y (nf w) := h
    cases hn : nf w with
    | nil => rw [hn] at h'; simp [cns] at h'; simp [h']
    | cons z t =>
      rw [hn] at h' ih
      rw [cns_cons] at h'
      split at h'
      · exact List.mem_cons_of_mem _ (ih (List.mem_cons_of_mem _ h'))
      · rcases List.mem_cons.1 h' with e | h'
        · simp [e]
        · exact List.mem_cons_of_mem _ (ih h')
end Go.Proofs.Ytihpmdfeonphpaa
/- Words in free groups: powers and roots; the cyclically reduced part. -/
namespace Go.Proofs.Ytihpmdfeonphpaa
set_option linter.unusedVariables false
set_option linter.unusedSimpArgs false

/-- d, k times. -/
def rep (d : List Int) (k : Nat) : List Int := (List.replicate k d).flatten
theorem rep_zero (d : List Int) : rep d 0 = [] := rfl
theorem rep_succ (d : List Int) (k : Nat) : rep d (k + 1) = d ++ rep d k := by simp [rep, List.replicate_succ]
theorem rep_one (d : List Int) : rep d 1 = d := by simp [rep_succ, rep_zero]
theorem rep_length (d : List Int) (k : Nat) : (rep d k).length = k * d.length := by
  induction k with
  | zero => simp [rep_zero]
  | succ k ih => rw [rep_succ, List.length_append, ih, Nat.succ_mul]; omega
theorem rep_add (d : List Int) (j k : Nat) : rep d (j + k) = rep d j ++ rep d k := by
  induction j with
  | zero => simp [rep_zero]
  | succ j ih => rw [show j + 1 + k = j + k + 1 by omega, rep_succ, rep_succ, ih, List.append_assoc]
theorem rep_succ' (d : List Int) (k : Nat) : rep d (k + 1) = rep d k ++ d := by rw [rep_add, rep_one]
theorem rep_rep (d : List Int) (j k : Nat) : rep (rep d j) k = rep d (j * k) := by
  induction k with
  | zero => simp [rep_zero]
  | succ k ih => rw [rep_succ, ih, Nat.mul_succ, Nat.add_comm, rep_add]
theorem rep_getD (d : List Int) : ∀ (k i : Nat), i < k * d.length → (rep d k).getD i 0 = d.getD (i % d.length) 0
  | 0, i, h => by omega
  | k + 1, i, h => by
    have hd : 0 < d.length := by
      rcases Nat.eq_zero_or_pos d.length with e | e
      · rw [e] at h; omega
      · exact e
    rw [rep_succ]
    simp only [List.getD]
    by_cases hi : i < d.length
    · rw [List.getElem?_append_left hi, Nat.mod_eq_of_lt hi]
    · rw [List.getElem?_append_right (by omega)]
      have := rep_getD d k (i - d.length) (by rw [Nat.succ_mul] at h; omega)
      simp only [List.getD] at this
      rw [this, ← Nat.mod_eq_sub_mod (by omega)]
theorem list_extI {a b : List Int} (hl : a.length = b.length) (h : ∀ i, i < a.length → a.getD i 0 = b.getD i 0) : a = b := by
  refine List.ext_getElem hl fun i h1 h2 => ?_
  have := h i h1
  simpa [List.getD, List.getElem?_eq_getElem h1, List.getElem?_eq_getElem h2] using this
/-- A word that a rotation by p leaves as it is. -/
def Per (W : List Int) (p : Nat) : Prop := ∀ i, i < W.length → W.getD ((i + p) % W.length) 0 = W.getD i 0
theorem Per.sub {W : List Int} {p q : Nat} (hp : Per W p) (hq : Per W q) (h : q ≤ p) : Per W (p - q) := by
  intro i hi
  have hL : 0 < W.length := by omega
  have h1 := hq ((i + (p - q)) % W.length) (Nat.mod_lt _ hL)
  rw [Nat.mod_add_mod, show i + (p - q) + q = i + p by omega, hp i hi] at h1
  exact h1.symm
theorem Per.gcd {W : List Int} : ∀ (n p q : Nat), p + q ≤ n → Per W p → Per W q → Per W (Nat.gcd p q)
  | 0, p, q, h, hp, hq => by
    obtain ⟨rfl, rfl⟩ : p = 0 ∧ q = 0 := by omega
    exact hp
  | n + 1, p, q, h, hp, hq => by
    rcases Nat.eq_zero_or_pos q with rfl | hq0
    · simpa using hp
    · rcases Nat.eq_zero_or_pos p with rfl | hp0
      · simpa using hq
      · by_cases hle : q ≤ p
        · have := Per.gcd n (p - q) q (by omega) (hp.sub hq hle) hq
          rwa [Nat.gcd_sub_self_left hle] at this
        · have := Per.gcd n p (q - p) (by omega) hp (hq.sub hp (by omega))
          rwa [Nat.gcd_sub_self_right (by omega)] at this
theorem Per.mod {W : List Int} {p : Nat} (hp : Per W p) (hp0 : 0 < p) : ∀ i, i < W.length → W.getD i 0 = W.getD (i % p) 0 := by
  intro i
  induction i using Nat.strongRecOn with
  | _ i ih =>
    intro hi
    by_cases h : i < p
    · rw [Nat.mod_eq_of_lt h]
    · have h1 := hp (i - p) (by omega)
      rw [show i - p + p = i by omega, Nat.mod_eq_of_lt hi] at h1
      rw [h1, ih (i - p) (by omega) (by omega), ← Nat.mod_eq_sub_mod (by omega)]
theorem Per.rep {W : List Int} {p : Nat} (hp : Per W p) (hp0 : 0 < p) (hd : p ∣ W.length) : W = rep (W.take p) (W.length / p) := by
  have hl : (W.take p).length = min p W.length := by simp
  rcases Nat.eq_zero_or_pos W.length with h0 | h0
  · rw [List.eq_nil_of_length_eq_zero h0]; simp [rep_zero]
  · have hle : p ≤ W.length := Nat.le_of_dvd h0 hd
    have hlp : (W.take p).length = p := by rw [hl]; omega
    refine list_extI (by rw [rep_length, hlp, Nat.div_mul_cancel hd]) fun i hi => ?_
    rw [rep_getD _ _ _ (by rw [hlp, Nat.div_mul_cancel hd]; exact hi), hlp, hp.mod hp0 i hi]
    simp only [List.getD]
    rw [List.getElem?_take, if_pos (Nat.mod_lt _ hp0)]
theorem rep_per (d : List Int) (k : Nat) : Per (rep d k) d.length := by
  intro i hi
  rw [rep_length] at hi ⊢
  have hd : 0 < d.length := by
    rcases Nat.eq_zero_or_pos d.length with e | e
    · rw [e] at hi; omega
    · exact e
  have hL : 0 < k * d.length := by omega
  rw [rep_getD d k _ (Nat.mod_lt _ hL), rep_getD d k i hi, Nat.mod_mul_left_mod, Nat.add_mod_right]
/-- d is the root of c, and k its exponent. -/
structure IsRoot (c d : List Int) (k : Nat) : Prop where
  eq : c = rep d k
  max : ∀ e j, c = rep e j → j ≤ k
theorem IsRoot.pow {c d : List Int} {k m : Nat} (h : IsRoot c d k) (hc : c ≠ []) (hm : 0 < m) : IsRoot (rep c m) d (k * m) := by
  have hcl : 0 < c.length := List.length_pos_iff.2 hc
  have hcd : c.length = k * d.length := by rw [h.eq, rep_length]
  have hd0 : 0 < d.length := by
    rcases Nat.eq_zero_or_pos d.length with e | e
    · rw [e] at hcd; omega
    · exact e
  have hW : rep c m = rep d (k * m) := by rw [h.eq, rep_rep]
  refine ⟨hW, fun e j he => ?_⟩
  have hL : (rep c m).length = m * c.length := rep_length c m
  have hLe : (rep c m).length = j * e.length := by rw [he, rep_length]
  have hL0 : 0 < (rep c m).length := by rw [hL]; exact Nat.mul_pos hm hcl
  have he0 : 0 < e.length := by
    rcases Nat.eq_zero_or_pos e.length with e' | e'
    · rw [hLe, e'] at hL0; omega
    · exact e'
  have p1 : Per (rep c m) d.length := by rw [hW]; exact rep_per _ _
  have p2 : Per (rep c m) e.length := by rw [he]; exact rep_per _ _
  have pg := Per.gcd _ d.length e.length (Nat.le_refl _) p1 p2
  have hg0 : 0 < Nat.gcd d.length e.length := Nat.gcd_pos_of_pos_left _ hd0
  obtain ⟨a, ha⟩ := Nat.gcd_dvd_left d.length e.length
  have hgc : Nat.gcd d.length e.length ∣ c.length := Nat.dvd_trans (Nat.gcd_dvd_left _ _) ⟨k, by rw [hcd, Nat.mul_comm]⟩
  -- the root is a power of a word of the common length
  have pc : Per c (Nat.gcd d.length e.length) := by
    intro i hi
    have hcg : ∀ z, z < c.length → c.getD z 0 = (rep c m).getD z 0 := fun z hz => by
      rw [rep_getD c m z (Nat.lt_of_lt_of_le hz (Nat.le_mul_of_pos_left _ hm)), Nat.mod_eq_of_lt hz]
    have hgl : Nat.gcd d.length e.length ≤ c.length := Nat.le_of_dvd hcl hgc
    have hmod := pg.mod hg0
    rw [hcg _ (Nat.mod_lt _ hcl), hcg i hi, hmod _ (by rw [hL]; exact Nat.lt_of_lt_of_le (Nat.mod_lt _ hcl) (Nat.le_mul_of_pos_left _ hm)), hmod i (by rw [hL]; exact Nat.lt_of_lt_of_le hi (Nat.le_mul_of_pos_left _ hm)), Nat.mod_mod_of_dvd _ hgc, Nat.add_mod_right]
  have hk := h.max _ _ (pc.rep hg0 hgc)
  obtain ⟨g, hg⟩ : ∃ g, Nat.gcd d.length e.length = g := ⟨_, rfl⟩
  obtain ⟨b, hb⟩ := Nat.gcd_dvd_right d.length e.length
  rw [hg] at hk ha hb hg0
  have hk0 : 0 < k := by
    rcases Nat.eq_zero_or_pos k with e' | e'
    · rw [e'] at hcd; omega
    · exact e'
  have e1 : c.length / g = k * a := by
    rw [hcd, ha, Nat.mul_left_comm, Nat.mul_div_cancel_left _ hg0]
  rw [e1] at hk
  have ha1 : a = 1 := by
    rcases Nat.lt_or_ge a 2 with h1 | h1
    · rcases Nat.eq_zero_or_pos a with e' | e'
      · rw [e'] at ha; omega
      · omega
    · have : k * 2 ≤ k * a := Nat.mul_le_mul_left k h1
      omega
  rw [ha1, Nat.mul_one] at ha
  have hb0 : 0 < b := by
    rcases Nat.eq_zero_or_pos b with e' | e'
    · rw [e'] at hb; omega
    · exact e'
  have e2 : g * (j * b) = g * (k * m) := by
    have : j * e.length = m * (k * d.length) := by rw [← hLe, hL, hcd]
    rw [hb, ha] at this
    rw [Nat.mul_left_comm, this, Nat.mul_comm m, Nat.mul_assoc, Nat.mul_comm g m, ← Nat.mul_assoc, Nat.mul_comm (k * m)]
  have e3 := Nat.eq_of_mul_eq_mul_left hg0 e2
  rw [← e3]
  exact Nat.le_mul_of_pos_right _ hb0
theorem IsRoot.unique {c d d' : List Int} {k k' : Nat} (h : IsRoot c d k) (h' : IsRoot c d' k') (hc : c ≠ []) : d = d' ∧ k = k' := by
  have e : k = k' := Nat.le_antisymm (h'.max _ _ h.eq) (h.max _ _ h'.eq)
  subst e
  have hcl : 0 < c.length := List.length_pos_iff.2 hc
  have h1 : c.length = k * d.length := by rw [← rep_length, ← h.eq]
  have h2 : c.length = k * d'.length := by rw [← rep_length, ← h'.eq]
  have hk : 0 < k := by
    rcases Nat.eq_zero_or_pos k with e | e
    · rw [e] at h1; omega
    · exact e
  have hl : d.length = d'.length := Nat.eq_of_mul_eq_mul_left hk (by omega)
  refine ⟨list_extI hl fun i hi => ?_, rfl⟩
  have hik : i < k * d.length := Nat.lt_of_lt_of_le hi (Nat.le_mul_of_pos_left _ hk)
  have e1 := rep_getD d k i hik
  have e2 := rep_getD d' k i (by rw [← hl]; exact hik)
  rw [Nat.mod_eq_of_lt hi] at e1
  rw [← hl, Nat.mod_eq_of_lt hi] at e2
  rw [← e1, ← e2, ← h.eq, ← h'.eq]
/-- Trying the exponents from the length downward. -/
theorem isRoot_of_try {c : List Int} {k : Nat} (hc : c ≠ []) (hk : 0 < k) (hd : k ∣ c.length) (he : c = rep (c.take (c.length / k)) k) (hn : ∀ j, k < j → j ≤ c.length → ¬ (j ∣ c.length ∧ c = rep (c.take (c.length / j)) j)) : IsRoot c (c.take (c.length / k)) k := by
  refine ⟨he, fun e j hj => ?_⟩
  rcases Nat.eq_zero_or_pos e.length with h0 | h0
  · exfalso
    have : c.length = 0 := by rw [hj, rep_length, h0, Nat.mul_zero]
    exact hc (List.eq_nil_of_length_eq_zero this)
  · have hl : c.length = j * e.length := by rw [hj, rep_length]
    rcases Nat.lt_or_ge k j with hlt | hge
    · exfalso
      refine hn j hlt (by rw [hl]; exact Nat.le_mul_of_pos_right _ h0) ⟨⟨e.length, hl⟩, ?_⟩
      have hj0 : 0 < j := by omega
      have : c.length / j = e.length := by rw [hl, Nat.mul_div_cancel_left _ hj0]
      rw [this]
      have ht : c.take e.length = e := by
        obtain ⟨j', rfl⟩ : ∃ j', j = j' + 1 := ⟨j - 1, by omega⟩
        rw [hj, rep_succ, List.take_left]
      rw [ht]
      exact hj
    · exact hge

/-! ### the cyclically reduced part -/
/-- The first and the last letter are not inverse to each other. -/
def Cyc (c : List Int) : Prop := 1 < c.length → c.getD 0 0 ≠ -c.getD (c.length - 1) 0
/-- Pairs of inverse letters around a word are taken off, at most n. -/
def coreN : Nat → List Int → List Int × List Int
  | 0, w => (w, [])
  | n + 1, w => if 1 < w.length ∧ w.getD 0 0 = -w.getD (w.length - 1) 0 then ((coreN n (w.tail.dropLast)).1, w.getD 0 0 :: (coreN n (w.tail.dropLast)).2) else (w, [])
def core (w : List Int) : List Int × List Int := coreN w.length w
theorem ends {w : List Int} (h : 1 < w.length) : w = w.getD 0 0 :: (w.tail.dropLast ++ [w.getD (w.length - 1) 0]) := by
  obtain ⟨x, t, rfl⟩ : ∃ x t, w = x :: t := by
    cases w with
    | nil => simp at h
    | cons x t => exact ⟨x, t, rfl⟩
  rcases List.eq_nil_or_concat t with rfl | ⟨s, y, rfl⟩
  · simp at h
  · simp [List.getD]
theorem inner_length {w : List Int} (h : 1 < w.length) : (w.tail.dropLast).length + 2 = w.length := by simp; omega
theorem coreN_spec : ∀ (n : Nat) (w : List Int), w.length ≤ n → w = (coreN n w).2 ++ (coreN n w).1 ++ invw (coreN n w).2 ∧ Cyc (coreN n w).1
  | 0, w, h => by
    have : w = [] := List.eq_nil_of_length_eq_zero (by omega)
    subst this
    exact ⟨rfl, fun h => by simp [coreN] at h⟩
  | n + 1, w, h => by
    by_cases hc : 1 < w.length ∧ w.getD 0 0 = -w.getD (w.length - 1) 0
    · have hl := inner_length hc.1
      obtain ⟨h1, h2⟩ := coreN_spec n w.tail.dropLast (by omega)
      have e : coreN (n + 1) w = ((coreN n (w.tail.dropLast)).1, w.getD 0 0 :: (coreN n (w.tail.dropLast)).2) := by simp only [coreN]; rw [if_pos hc]
      rw [e]
      refine ⟨?_, h2⟩
      simp only
      rw [invw_cons, show -w.getD 0 0 = w.getD (w.length - 1) 0 by omega]
      have h3 : w.getD 0 0 :: (coreN n w.tail.dropLast).2 ++ (coreN n w.tail.dropLast).1 ++ (invw (coreN n w.tail.dropLast).2 ++ [w.getD (w.length - 1) 0]) = w.getD 0 0 :: (((coreN n w.tail.dropLast).2 ++ (coreN n w.tail.dropLast).1 ++ invw (coreN n w.tail.dropLast).2) ++ [w.getD (w.length - 1) 0]) := by simp
      rw [h3, ← h1]
      exact ends hc.1
    · have e : coreN (n + 1) w = (w, []) := by simp only [coreN]; rw [if_neg hc]
      rw [e]
      exact ⟨by simp [invw], fun h1 h2 => hc ⟨h1, h2⟩⟩
theorem core_spec (w : List Int) : w = (core w).2 ++ (core w).1 ++ invw (core w).2 ∧ Cyc (core w).1 := coreN_spec _ w (Nat.le_refl _)
theorem getD_last (a : List Int) (x : Int) : (a ++ [x]).getD ((a ++ [x]).length - 1) 0 = x := by simp [List.getD]
/-- A decomposition is that of core. -/
theorem coreN_unique {c : List Int} (hc : Cyc c) (hne : c ≠ []) : ∀ (n : Nat) (u : List Int), u.length ≤ n → coreN n (u ++ c ++ invw u) = (c, u)
  | 0, u, h => by
    obtain rfl : u = [] := List.eq_nil_of_length_eq_zero (by omega)
    simp [coreN, invw]
  | n + 1, [], h => by
    simp only [List.nil_append, invw, List.map_nil, List.reverse_nil, List.append_nil, coreN]
    rw [if_neg]
    rintro ⟨h1, h2⟩
    exact hc h1 h2
  | n + 1, x :: u, h => by
    have hl : 1 < (x :: u ++ c ++ invw (x :: u)).length := by simp [invw]; omega
    have hlast : (x :: u ++ c ++ invw (x :: u)).getD ((x :: u ++ c ++ invw (x :: u)).length - 1) 0 = -x := by
      rw [invw_cons, ← List.append_assoc, getD_last]
    have hfirst : (x :: u ++ c ++ invw (x :: u)).getD 0 0 = x := by simp [List.getD]
    have hin : (x :: u ++ c ++ invw (x :: u)).tail.dropLast = u ++ c ++ invw u := by
      rw [invw_cons]
      simp only [List.cons_append, List.tail_cons, ← List.append_assoc, List.dropLast_concat]
    simp only [coreN]
    rw [if_pos ⟨hl, by rw [hlast, hfirst, Int.neg_neg]⟩, hin, hfirst, coreN_unique hc hne n u (by simpa using h)]
theorem core_unique {u c : List Int} (hc : Cyc c) (hne : c ≠ []) : core (u ++ c ++ invw u) = (c, u) := coreN_unique hc hne _ u (by simp only [List.length_append]; omega)
theorem Red.append {a b : List Int} (ha : Red a) (hb : Red b) (h : a ≠ [] → b ≠ [] → a.getD (a.length - 1) 0 ≠ -b.getD 0 0) : Red (a ++ b) := by
  rw [red_iff] at ha hb ⊢
  intro i hi
  rw [List.length_append] at hi
  simp only [List.getD] at ha hb h ⊢
  by_cases h1 : i + 1 < a.length
  · rw [List.getElem?_append_left (by omega), List.getElem?_append_left h1]
    exact ha i h1
  · by_cases h2 : i + 1 = a.length
    · rw [List.getElem?_append_left (by omega), List.getElem?_append_right (by omega)]
      have := h (fun e => by rw [e] at h2; simp at h2) (fun e => by rw [e] at hi; simp at hi; omega)
      rwa [show a.length - 1 = i by omega, show (0 : Nat) = i + 1 - a.length by omega] at this
    · rw [List.getElem?_append_right (by omega), List.getElem?_append_right (by omega), show i + 1 - a.length = i - a.length + 1 by omega]
      exact hb (i - a.length) (by omega)
theorem rep_red {c : List Int} (hr : Red c) (hc : Cyc c) (h0 : ∀ x ∈ c, x ≠ 0) (m : Nat) : Red (rep c m) := by
  rw [red_iff]
  intro i hi
  rw [rep_length] at hi
  have hcl : 0 < c.length := by
    rcases Nat.eq_zero_or_pos c.length with e | e
    · rw [e] at hi; omega
    · exact e
  rw [rep_getD c m i (by omega), rep_getD c m (i + 1) hi]
  have hlt := Nat.mod_lt i hcl
  by_cases h1 : i % c.length + 1 < c.length
  · have e : (i + 1) % c.length = i % c.length + 1 := by rw [Nat.add_mod, Nat.mod_eq_of_lt (show 1 < c.length by omega), Nat.mod_eq_of_lt h1]
    rw [e]
    exact (red_iff.1 hr) _ h1
  · have e1 : i % c.length = c.length - 1 := by omega
    have e2 : (i + 1) % c.length = 0 := by
      by_cases h2 : c.length = 1
      · rw [h2, Nat.mod_one]
      · rw [Nat.add_mod, Nat.mod_eq_of_lt (show 1 < c.length by omega), e1, show c.length - 1 + 1 = c.length by omega, Nat.mod_self]
    rw [e1, e2]
    by_cases h2 : 1 < c.length
    · intro e
      exact hc h2 (by omega)
    · rw [show c.length - 1 = 0 by omega]
      have hm : c.getD 0 0 ∈ c := by
        rw [show c.getD 0 0 = c[0] by simp [List.getD, List.getElem?_eq_getElem hcl]]
        exact List.getElem_mem _
      have := h0 _ hm
      omega
/-- A power of a reduced word. -/
theorem nf_rep {u c : List Int} (hr : Red (u ++ c ++ invw u)) (hc : Cyc c) (hne : c ≠ []) (h0 : ∀ x ∈ c, x ≠ 0) {m : Nat} (hm : 0 < m) : nf (rep (u ++ c ++ invw u) m) = u ++ rep c m ++ invw u ∧ Red (u ++ rep c m ++ invw u) ∧ Cyc (rep c m) := by
  have hcl : 0 < c.length := List.length_pos_iff.2 hne
  have hru : Red u := (Red.append_left (Red.append_left hr))
  have hrc : Red c := Red.append_right (Red.append_left hr)
  have hri : Red (invw u) := Red.append_right hr
  have hml : 0 < m * c.length := Nat.mul_pos hm hcl
  have hfirst : (rep c m).getD 0 0 = c.getD 0 0 := by rw [rep_getD c m 0 hml, Nat.zero_mod]
  have hlast : (rep c m).getD ((rep c m).length - 1) 0 = c.getD (c.length - 1) 0 := by
    rw [rep_length, rep_getD c m _ (by omega)]
    congr 1
    obtain ⟨k, rfl⟩ : ∃ k, m = k + 1 := ⟨m - 1, by omega⟩
    rw [Nat.succ_mul, show k * c.length + c.length - 1 = c.length - 1 + k * c.length by omega, Nat.add_mul_mod_self_right, Nat.mod_eq_of_lt (by omega)]
  have hrep := rep_red hrc hc h0 m
  have h1 : Red (u ++ rep c m) := hru.append hrep fun hu _ => by
    rw [hfirst]
    have h2 := (red_iff.1 (Red.append_left hr)) (u.length - 1) (by have := List.length_pos_iff.2 hu; simp; omega)
    have hul := List.length_pos_iff.2 hu
    simp only [List.getD] at h2 ⊢
    rw [List.getElem?_append_left (by omega), List.getElem?_append_right (by omega), show u.length - 1 + 1 - u.length = 0 by omega] at h2
    exact h2
  have h2 : Red (u ++ rep c m ++ invw u) := h1.append hri fun _ hi => by
    have hil := List.length_pos_iff.2 hi
    have e1 : (u ++ rep c m).getD ((u ++ rep c m).length - 1) 0 = (rep c m).getD ((rep c m).length - 1) 0 := by
      simp only [List.getD, List.length_append]
      rw [List.getElem?_append_right (by rw [rep_length]; omega), rep_length, show u.length + m * c.length - 1 - u.length = m * c.length - 1 by omega]
    rw [e1, hlast]
    have h3 := (red_iff.1 hr) (u.length + c.length - 1) (by simp; omega)
    simp only [List.getD] at h3 ⊢
    rw [List.getElem?_append_left (by simp; omega), List.getElem?_append_right (by omega), List.getElem?_append_right (by simp; omega), show u.length + c.length - 1 - u.length = c.length - 1 by omega, show u.length + c.length - 1 + 1 - (u ++ c).length = 0 by simp; omega] at h3
    exact h3
  refine ⟨?_, h2, fun _ => by
    rw [hfirst, hlast]
    by_cases h4 : 1 < c.length
    · exact hc h4
    · rw [show c.length - 1 = 0 by omega]
      have hmm : c.getD 0 0 ∈ c := by
        rw [show c.getD 0 0 = c[0] by simp [List.getD, List.getElem?_eq_getElem hcl]]
        exact List.getElem_mem _
      have := h0 _ hmm
      omega⟩
  have hd : ∀ k, Dels (rep (u ++ c ++ invw u) (k + 1)) (u ++ rep c (k + 1) ++ invw u) := fun k => by
    induction k with
    | zero => rw [rep_one, rep_one]; exact .refl _
    | succ k ih =>
      rw [rep_succ _ (k + 1)]
      have h5 := ih.app (u ++ c ++ invw u) []
      simp only [List.append_nil] at h5
      refine h5.trans ?_
      have h6 : ∀ v s, Dels (invw v ++ (v ++ s)) s := fun v => by
        induction v with
        | nil => intro s; simp [invw]; exact .refl _
        | cons x v ih =>
          intro s
          refine .step ⟨invw v, -x, v ++ s, by rw [invw_cons]; simp, rfl⟩ ?_
          exact ih s
      have h7 := (h6 u (rep c (k + 1) ++ invw u)).app (u ++ c) []
      simp only [List.append_nil, List.append_assoc] at h7 ⊢
      rw [rep_succ c (k + 1)]
      simp only [List.append_assoc]
      exact h7
  obtain ⟨k, rfl⟩ : ∃ k, m = k + 1 := ⟨m - 1, by omega⟩
  exact ((hd k).done h2).symm
end Go.Proofs.Ytihpmdfeonphpaa
/- A map that the call made, whatever its elements: as a function from keys to elements, with the number of its entries. -/
namespace Go.Proofs.Ytihpmdfeonphpaa
open Go.RowKit Go.Maps

/-- An element reads as itself. -/
def HR (v : Value) : Option (DataW Value × List MemPlace) := some (.held v, [])

/-- Block b is a map with s entries, whose element at a key x is f x. -/
structure Dict (P : Program) (k : TypeId) (w : World) (b s : Nat) (f : Value → Option Value) : Prop where
  own : ∃ D : DataW Value, w.ownsMap P k HR b s D ∧ Tidy D ∧ Maps.size D = s ∧ ∀ key kl, keyOf P k key = some kl →
    match f key with
    | none => Maps.has D kl = false
    | some v => Maps.has D kl = true ∧ ∀ z, D.atKey kl z = .held v

section
variable {P : Program} {k : TypeId} {w w' : World} {b s : Nat} {f : Value → Option Value}
theorem Dict.made (w : World) (P : Program) (k : TypeId) : Dict P k (w.alloc (.map #[] 0)) w.heap.size 0 fun _ => none :=
  ⟨⟨.map [], World.ownsMap_made _ _ _ _, tidy_empty, rfl, fun _ _ _ => rfl⟩⟩
theorem Dict.lt (h : Dict P k w b s f) : b < w.heap.size := by obtain ⟨D, hD, _⟩ := h.own; exact hD.lt
theorem Dict.kept {row : Option Nat} (h : Dict P k w b s f) (hg : w.grownBy w' row) (hne : some b ≠ row) : Dict P k w' b s f := by
  obtain ⟨D, hD, r⟩ := h.own
  exact ⟨⟨D, hD.kept hg hne, r⟩⟩
theorem Dict.below (h : Dict P k w b s f) (hb : Below w.heap.size w w') : Dict P k w' b s f := by
  have hlt := h.lt
  obtain ⟨D, ⟨es, clock, hbl, r1⟩, r⟩ := h.own
  exact ⟨⟨D, ⟨es, clock, (hb.block b hlt).trans hbl, r1⟩, r⟩⟩
theorem Dict.alloc (h : Dict P k w b s f) (o : Obj) : Dict P k (w.alloc o) b s f := h.below ((Below.refl _ _).alloc (Nat.le_refl _) o)
theorem Dict.setCell (h : Dict P k w b s f) {a : Addr} (ha : b ≠ a.block) (u : Value) : Dict P k (w.setCell a u) b s f := by
  obtain ⟨D, hD, r⟩ := h.own
  exact ⟨⟨D, hD.setCell ha u, r⟩⟩
theorem Dict.drewN (h : Dict P k w b s f) (n : Nat) : Dict P k (w.drewN n) b s f := by
  obtain ⟨D, hD, r⟩ := h.own
  exact ⟨⟨D, hD, r⟩⟩
theorem Dict.setRow (h : Dict P k w b s f) {g : Nat} (ha : b ≠ g) (cs : Array Value) : Dict P k (w.setRow g cs) b s f := by
  obtain ⟨D, ⟨es, clock, hbl, r1⟩, r⟩ := h.own
  exact ⟨⟨D, ⟨es, clock, (setRow_other w g b cs ha).trans hbl, r1⟩, r⟩⟩
/-- Another map was written. -/
theorem Dict.turned {c : Nat} (h : Dict P k w b s f) (hg : w.grownBy w' (some c)) (hne : b ≠ c) : Dict P k w' b s f := h.kept hg (by simpa using hne)

theorem HR_inv {v : Value} {d : DataW Value} {ps : List MemPlace} (h : HR v = some (d, ps)) : d = .held v := by
  simp [HR] at h
  exact h.1.symm

/-- v, ok := m[x] -/
theorem Dict.look_ok {t e : TypeId} (h : Dict P k w b s f) (K : Keyed P k) (ht : P.underlying t = some (.map k e)) {z : Value} (hz : (zeroValue e).run P w = .ok z w)
    {key : Value} {kl : Lit} (hkey : keyOf P k key = some kl) : (Instr.lookup t (.map (some b)) key true).run P w = .ok (.tuple #[(f key).getD z, .bool (f key).isSome]) w := by
  obtain ⟨D, hD, _, _, hf⟩ := h.own
  obtain ⟨v, ps, hrun, hv⟩ := hD.look_ok K ht hz (zd := .held z) (zp := []) rfl hkey
  have hv := HR_inv hv
  have := hf key kl hkey
  rw [hrun]
  cases hfk : f key with
  | none =>
    rw [hfk] at this
    have hv2 := Maps.atKey_of_not_has this (.held z)
    rw [hv2] at hv
    injection hv with hv
    simp [this, hv]
  | some u =>
    rw [hfk] at this
    rw [this.2] at hv
    injection hv with hv
    simp [this.1, hv]
/-- m[x] -/
theorem Dict.look {t e : TypeId} (h : Dict P k w b s f) (K : Keyed P k) (ht : P.underlying t = some (.map k e)) {z : Value} (hz : (zeroValue e).run P w = .ok z w)
    {key : Value} {kl : Lit} (hkey : keyOf P k key = some kl) : (Instr.lookup t (.map (some b)) key false).run P w = .ok ((f key).getD z) w := by
  obtain ⟨D, hD, _, _, hf⟩ := h.own
  obtain ⟨v, ps, hrun, hv⟩ := hD.lookup K ht hz (zd := .held z) (zp := []) rfl hkey
  have hv := HR_inv hv
  have := hf key kl hkey
  rw [hrun]
  cases hfk : f key with
  | none =>
    rw [hfk] at this
    have hv2 := Maps.atKey_of_not_has this (.held z)
    rw [hv2] at hv
    injection hv with hv
    simp [hv]
  | some u =>
    rw [hfk] at this
    rw [this.2] at hv
    injection hv with hv
    simp [hv]
/-- len(m) -/
theorem Dict.len {t e : TypeId} (h : Dict P k w b s f) (ht : P.underlying t = some (.map k e)) (ty : TypeId) : (Builtin.len_ #[t] ty #[.map (some b)]).run P w = .ok (.int .i64 s) w := by
  obtain ⟨D, hD, _, hs, _⟩ := h.own
  rw [hD.len ht ty, hs]
/-- m[x] = v -/
theorem Dict.store {t e : TypeId} (h : Dict P k w b s f) (K : Keyed P k) (ht : P.underlying t = some (.map k e)) (hn : s < maxLen)
    {key : Value} {kl : Lit} (hkey : keyOf P k key = some kl) (v : Value) {f' : Value → Option Value} (h1 : f' key = some v) (h2 : ∀ y l, keyOf P k y = some l → y ≠ key → f' y = f y) :
    ∃ w', (Instr.mapUpdate t (.map (some b)) key v).run P w = .ok () w' ∧ Dict P k w' b (if (f key).isSome then s else s + 1) f' ∧ w.grownBy w' (some b) ∧ w'.heap.size = w.heap.size := by
  obtain ⟨D, hD, hT, hs, hf⟩ := h.own
  obtain ⟨w1, hrun, hD1, hg⟩ := hD.store K ht hn hkey (val := v) (d := .held v) (ps := []) rfl
  have hIK : WideAt.IsKeyLit kl := K.key hkey
  have hT1 := hT.put hIK (.held v)
  have hsz : Maps.size (D.put kl (.held v)) = if (f key).isSome then s else s + 1 := by
    rw [Maps.size_put hT, hs]
    have := hf key kl hkey
    cases hfk : f key with
    | none => rw [hfk] at this; simp [this]
    | some u => rw [hfk] at this; simp [this.1]
  refine ⟨w1, hrun, ⟨⟨D.put kl (.held v), ?_, hT1, hsz, fun key' kl' hk' => ?_⟩⟩, hg.grown, ?_⟩
  · obtain ⟨es, clock, hb1, F1, hle, hDe⟩ := hD1
    refine ⟨es, clock, hb1, F1, ?_, hDe⟩
    rw [← hsz, hDe]
    simp [Maps.size, length_sorted]
  · by_cases e : key' = key
    · subst e
      rw [h1]
      have : kl' = kl := by rw [hkey] at hk'; injection hk' with hk'; exact hk'.symm
      subst this
      exact ⟨Maps.has_put_same hD.isMap hIK _, fun z => Maps.atKey_put_same hD.isMap hIK _ z⟩
    · rw [h2 key' kl' hk' e]
      have hne : kl' ≠ kl := fun h' => e (K.inj hk' (h' ▸ hkey))
      have := hf key' kl' hk'
      cases hfk : f key' with
      | none => rw [hfk] at this; simp only; rw [Maps.has_put_other hne]; exact this
      | some u =>
        rw [hfk] at this
        exact ⟨by rw [Maps.has_put_other hne]; exact this.1, fun z => by rw [Maps.atKey_put_other hne]; exact this.2 z⟩
  · obtain ⟨_, _, es', clock', _, rfl⟩ := hg
    simp [ChangeMaps.setBlock]
theorem Dict.congr {g : Value → Option Value} {s' : Nat} (h : Dict P k w b s f) (hs : s = s') (hfg : ∀ key kl, keyOf P k key = some kl → f key = g key) : Dict P k w b s' g := by
  subst hs
  obtain ⟨D, h1, h2, h3, h4⟩ := h.own
  exact ⟨⟨D, h1, h2, h3, fun key kl hk => by have := h4 key kl hk; rw [hfg key kl hk] at this; exact this⟩⟩
end

section
variable {P : Program} (w : World) {ops : Array Oper} {rest : List Oper} {o : Oper} {a : Act} {Q : Exit → Act → World → Prop}
theorem wpList_look_ok (hg : o.guard = none) (m x : Operand) (t : TypeId) (hop : o.op = Op.lookup t m x true) (k e : TypeId) (K : Keyed P k) (ht : P.underlying t = some (.map k e)) {z : Value} (hz : (zeroValue e).run P w = .ok z w)
    (b s : Nat) (f : Value → Option Value) (hm : a.eval m = .map (some b)) (h : Dict P k w b s f) (key : Value) (kl : Lit) (hx : a.eval x = key) (hkey : keyOf P k key = some kl)
    (hK : wpList P ops Q rest (a.put o.dst (.tuple #[(f key).getD z, .bool (f key).isSome])) w) : wpList P ops Q (o :: rest) a w := by
  refine wpList_plain hg fun K' hK' => ?_
  unfold Oper.wp
  simp [execOp, hop, hm, hx, h.look_ok K ht hz hkey, Result.andThen]
  exact hK' _ _ hK
theorem wpList_look (hg : o.guard = none) (m x : Operand) (t : TypeId) (hop : o.op = Op.lookup t m x false) (k e : TypeId) (K : Keyed P k) (ht : P.underlying t = some (.map k e)) {z : Value} (hz : (zeroValue e).run P w = .ok z w)
    (b s : Nat) (f : Value → Option Value) (hm : a.eval m = .map (some b)) (h : Dict P k w b s f) (key : Value) (kl : Lit) (hx : a.eval x = key) (hkey : keyOf P k key = some kl)
    (hK : wpList P ops Q rest (a.put o.dst ((f key).getD z)) w) : wpList P ops Q (o :: rest) a w := by
  refine wpList_plain hg fun K' hK' => ?_
  unfold Oper.wp
  simp [execOp, hop, hm, hx, h.look K ht hz hkey, Result.andThen]
  exact hK' _ _ hK
theorem wpList_mlen (hg : o.guard = none) (m : Operand) (t : TypeId) (hop : o.op = Op.call { callee := Callee.builtin Builtin.len, args := #[m], argTypes := #[t] })
    (k e : TypeId) (ht : P.underlying t = some (.map k e)) (b s : Nat) (f : Value → Option Value) (hm : a.eval m = .map (some b)) (h : Dict P k w b s f)
    (hK : wpList P ops Q rest (a.put o.dst (.int .i64 s)) w) : wpList P ops Q (o :: rest) a w := by
  refine wpList_plain hg fun K' hK' => ?_
  unfold Oper.wp
  simp [execOp, hop, resolve, invoke, builtin, hm, h.len ht o.type, Result.andThen]
  exact hK' _ _ hK
theorem wpList_mput (hg : o.guard = none) (m x v : Operand) (t : TypeId) (hop : o.op = Op.mapUpdate t m x v ∨ o.op = Op.insert t m x v) (k e : TypeId) (K : Keyed P k) (ht : P.underlying t = some (.map k e))
    (b s : Nat) (f : Value → Option Value) (hm : a.eval m = .map (some b)) (h : Dict P k w b s f) (hn : s < maxLen) (key val : Value) (kl : Lit) (hx : a.eval x = key) (hv : a.eval v = val) (hkey : keyOf P k key = some kl)
    (f' : Value → Option Value) (h1 : f' key = some val) (h2 : ∀ y l, keyOf P k y = some l → y ≠ key → f' y = f y)
    (hK : ∀ w', Dict P k w' b (if (f key).isSome then s else s + 1) f' → w.grownBy w' (some b) → w'.heap.size = w.heap.size → wpList P ops Q rest (a.put o.dst undef) w') : wpList P ops Q (o :: rest) a w := by
  refine wpList_plain hg fun K' hK' => ?_
  obtain ⟨w', hrun, r1, r2, r3⟩ := h.store K ht hn hkey val h1 h2
  unfold Oper.wp
  rcases hop with hop | hop
  all_goals
    simp [execOp, hop, hm, hx, hv, hrun, Result.andThen]
    exact hK' _ _ (hK w' r1 r2 r3)
end
end Go.Proofs.Ytihpmdfeonphpaa
/- Regions that draw their order, walked by hand: what only reads comes first. -/
namespace Go.Proofs.Ytihpmdfeonphpaa
open Go.RowKit Go.Maps

section
variable {P : Program} {ops : Array Oper} {Q : Exit → Act → World → Prop} {S : World → Prop} {md : Region.Mode}

/-- Just one operation may come up: it is carried out. -/
theorem wpAnyH_one {i : Nat} {o : Oper} {fuel : Nat} {listed : Array Bool} {a : Act} {w : World} (hr : Region.ready md ops listed = [i]) (ho : ops[i]? = some o) (hg : Region.wanted o (yielded ops a.tmps) = true)
    (h : o.wp P a w (fun a' w' => S w' ∧ wpAnyH P md ops Q S fuel (listed.setIfInBounds i true) a' w') Q) : wpAnyH P md ops Q S (fuel + 1) listed a w := by
  refine wpAnyH_all hr (by simp) fun j hj => ?_
  obtain rfl : j = i := by simpa using hj
  unfold wpOp
  simp only [ho, hg, if_true]
  exact .inl h
/-- One of two. -/
theorem wpAnyH_two {i k : Nat} {o o' : Oper} {fuel : Nat} {listed : Array Bool} {a : Act} {w : World} (hr : Region.ready md ops listed = [i, k]) (ho : ops[i]? = some o) (ho' : ops[k]? = some o') (hg : Region.wanted o (yielded ops a.tmps) = true) (hg' : Region.wanted o' (yielded ops a.tmps) = true)
    (h : o.wp P a w (fun a' w' => S w' ∧ wpAnyH P md ops Q S fuel (listed.setIfInBounds i true) a' w') Q) (h' : o'.wp P a w (fun a' w' => S w' ∧ wpAnyH P md ops Q S fuel (listed.setIfInBounds k true) a' w') Q) : wpAnyH P md ops Q S (fuel + 1) listed a w := by
  refine wpAnyH_all hr (by simp) fun j hj => ?_
  unfold wpOp
  rcases List.mem_cons.1 hj with rfl | hj
  · simp only [ho, hg, if_true]
    exact .inl h
  · obtain rfl : j = k := by simpa using hj
    simp only [ho', hg', if_true]
    exact .inl h'

theorem noPanic_mk {a : Act} {w : World} (h : Q .normal a w) : NoPanic Q .normal a w := h
/-- Number i, written out, is taken first. -/
theorem wpAnyH_tk (i : Nat) {d : Option Tmp} {op : Op} {ty : TypeId} {pos : String} {af : Array Edge} {gd : Option (Tmp × Bool)} {v : Value} {fuel : Nat} {listed : Array Bool} {a : Act} {w : World} (hi : ops[i]? = some ⟨d, op, ty, pos, af, gd⟩)
    (hs : Region.noSelect ops = true) (hf : Region.free md ops listed i = true) (hr : (Region.ready md ops listed).contains i = true)
    (hy : YieldsIf P ops S ⟨d, op, ty, pos, af, gd⟩ v a) (hS : S w)
    (h : wpAnyH P md ops (NoPanic Q) S fuel (listed.setIfInBounds i true) (a.put d v) w) : wpAnyH P md ops (NoPanic Q) S (fuel + 1) listed a w :=
  wpAnyH_take hi hs hf hr (fun _ _ _ h => h) hy hS h
theorem wpAnyH_1 (i : Nat) {d : Option Tmp} {op : Op} {ty : TypeId} {pos : String} {af : Array Edge} {fuel : Nat} {listed : Array Bool} {a : Act} {w : World} (ho : ops[i]? = some ⟨d, op, ty, pos, af, none⟩) (hr : Region.ready md ops listed = [i])
    (h : Oper.wp P ⟨d, op, ty, pos, af, none⟩ a w (fun a' w' => S w' ∧ wpAnyH P md ops Q S fuel (listed.setIfInBounds i true) a' w') Q) : wpAnyH P md ops Q S (fuel + 1) listed a w :=
  wpAnyH_one hr ho rfl h

/-- What an operation yields, leaving the world alone. -/
def Gives (P : Program) (o : Oper) (a : Act) (w : World) (v : Value) : Prop := (execOp a.eval o).run P w = .ok (.value v) w
theorem yi {o : Oper} {v : Value} {a : Act} (hg : Region.wanted o (yielded ops a.tmps) = true) (h : ∀ w, S w → Gives P o a w v) : YieldsIf P ops S o v a := .inl ⟨hg, h⟩

variable {o : Oper} {a : Act} {w : World}
theorem gives_move {x : Operand} {v : Value} (ho : o.op = .move x ∨ o.op = .assign x) (hx : a.eval x = v) : Gives P o a w v := by
  subst hx
  unfold Gives execOp
  rcases ho with ho | ho <;> rw [ho] <;> rfl
theorem gives_extract {x : Operand} {k : Nat} {vs : Array Value} {v : Value} (ho : o.op = .extract x k) (hx : a.eval x = .tuple vs) (hv : vs[k]? = some v) : Gives P o a w v := by
  unfold Gives execOp
  rw [ho]
  simp [hx, Instr.extract, hv, Result.andThen]
/-- An element of an array variable of n one-cell elements. -/
theorem gives_indexArr {t e : TypeId} {n : Nat} {x y : Operand} {g k : Nat} {q : IntKind} (ho : o.op = .indexAddr t x y) (ht : P.underlying t = some (.array n e)) (he : ∀ w, (sizeOf e).run P w = .ok 1 w) (hx : a.eval x = .pointer (some ⟨g, 0, none⟩)) (hy : a.eval y = .int q k) (hk : k < n) :
    Gives P o a w (.pointer (some ⟨g, k, none⟩)) := by
  have hadd : (⟨g, 0, none⟩ : Addr).add k = ⟨g, k, none⟩ := by rw [Addr.add_mid]; simp
  unfold Gives execOp
  rw [ho]
  simp [hx, hy, Instr.indexAt, Sem.run_bind, asIntOf, run_underlying ht, Instr.sureAddr, he, hk, hadd, Result.andThen]
theorem gives_indexSlice {t e : TypeId} {m : Nat} {x y : Operand} {ad : Addr} {k n c : Nat} {q : IntKind} (ho : o.op = .indexAddr t x y) (ht : P.underlying t = some (.slice e)) (he : ∀ w, (sizeOf e).run P w = .ok m w) (hx : a.eval x = .slice (some ad) n c) (hy : a.eval y = .int q k) (hk : k < n) :
    Gives P o a w (.pointer (some (ad.add (k * m)))) := by
  unfold Gives execOp
  rw [ho]
  simp [hx, hy, Instr.indexAt, Sem.run_bind, asIntOf, run_underlying ht, Instr.sureAddr, he, hk, Result.andThen]
theorem gives_indexB {t e : TypeId} {m : Nat} {x y : Operand} {g k n c : Nat} {q : IntKind} (ho : o.op = .indexAddr t x y) (ht : P.underlying t = some (.slice e)) (he : ∀ w, (sizeOf e).run P w = .ok m w) (hx : a.eval x = .slice (some ⟨g, 0, none⟩) n c) (hy : a.eval y = .int q k) (hk : k < n) :
    Gives P o a w (.pointer (some ⟨g, k * m, none⟩)) := by
  have := gives_indexSlice (w := w) ho ht he hx hy hk
  rwa [show (⟨g, 0, none⟩ : Addr).add (k * m) = ⟨g, k * m, none⟩ by rw [Addr.add_mid]; simp] at this
theorem gives_load1 {t : TypeId} {x : Operand} {ad : Addr} {v : Value} (ho : o.op = .load t x) (h1 : (isAgg t).run P w = .ok false w) (hx : a.eval x = .pointer (some ad)) (hc : w.cell? ad = some v) : Gives P o a w v := by
  unfold Gives execOp
  rw [ho]
  simp [hx, Instr.loadAt, Instr.sureAddr, loadVar, Sem.run_bind, h1, hc, Result.andThen]
theorem gives_loadRow {ty t : TypeId} {x : Operand} {g : Nat} {cs : Array Value} {fr : Nat × Nat} {d : TypeDesc} (ho : o.op = .load ty x) (hx : a.eval x = .pointer (some ⟨g, 0, none⟩)) (hg : w.heap[g]? = some (.cells cs t fr))
    (hu : P.underlying ty = some d) (hd : (match d with | .struct _ | .array _ _ => true | _ => false) = true) (hi : (P.info? ty).map (·.size) = some cs.size) : Gives P o a w (.agg cs) := by
  unfold Gives execOp
  rw [ho]
  simp [hx, Instr.loadAt, Instr.sureAddr, run_loadVar_row w g t ty cs fr d hg hu hd hi, Result.andThen]
theorem gives_loadMid {ty : TypeId} {x : Operand} {g k : Nat} {cs : List Value} {d : TypeDesc} (ho : o.op = .load ty x) (hx : a.eval x = .pointer (some ⟨g, k, none⟩)) (hg : w.rangeAt g k cs)
    (hu : P.underlying ty = some d) (hd : d.isRow = true) (hi : (P.info? ty).map (·.size) = some cs.length) : Gives P o a w (.agg cs.toArray) := by
  unfold Gives execOp
  rw [ho]
  simp [hx, Instr.loadAt, Instr.sureAddr, run_loadVar_mid w g k ty cs d hg hu hd hi, Result.andThen]
theorem gives_lookup {t : TypeId} {x y : Operand} {m key v : Value} {ok : Bool} (ho : o.op = .lookup t x y ok) (hx : a.eval x = m) (hy : a.eval y = key) (h : (Instr.lookup t m key ok).run P w = .ok v w) : Gives P o a w v := by
  unfold Gives execOp
  rw [ho]
  simp [hx, hy, h, Result.andThen]
theorem gives_fieldAddr {s : TypeId} {fs : Array Field} {f : Field} {x : Operand} {k g : Nat} (ho : o.op = .fieldAddr s x k) (hs : P.underlying s = some (.struct fs)) (hf : fs[k]? = some f) (hx : a.eval x = .pointer (some ⟨g, 0, none⟩)) (hp : ∀ w, (fieldPlace ⟨g, 0, none⟩ f).run P w = .ok ⟨g, f.offset, none⟩ w) :
    Gives P o a w (.pointer (some ⟨g, f.offset, none⟩)) := by
  unfold Gives execOp
  rw [ho]
  simp [hx, Instr.fieldAt, Sem.run_bind, run_underlying hs, hf, Instr.sureAddr, hp, Result.andThen]

/-! ### what an operation does -/
theorem wp_gives {K : Act → World → Prop} {v : Value} (h : Gives P o a w v) (hK : K (a.put o.dst v) w) : o.wp P a w K Q := by
  unfold Oper.wp
  unfold Gives at h
  rw [h]
  exact hK
theorem wp_alloc {K : Act → World → Prop} {t : TypeId} {z : Value} {cs : Array Value} (ho : o.op = .alloc t) (hz : (zeroValue t).run P w = .ok z w) (hc : z.cells = cs)
    (hK : K (a.put o.dst (.pointer (some ⟨w.heap.size, 0, none⟩))) (w.alloc (.cells cs t))) : o.wp P a w K Q := by
  subst hc
  unfold Oper.wp execOp
  rw [ho]
  simp [Instr.alloc, Sem.run_bind, hz, Result.andThen, newVar, newRow, newObj]
  exact hK
theorem wp_mput {K : Act → World → Prop} {m x v : Operand} {t k e : TypeId} (hop : o.op = Op.mapUpdate t m x v ∨ o.op = Op.insert t m x v) (Kk : Keyed P k) (ht : P.underlying t = some (.map k e))
    (b s : Nat) (f : Value → Option Value) (hm : a.eval m = .map (some b)) (h : Dict P k w b s f) (hn : s < maxLen) (key val : Value) (kl : Lit) (hx : a.eval x = key) (hv : a.eval v = val) (hkey : keyOf P k key = some kl)
    (f' : Value → Option Value) (h1 : f' key = some val) (h2 : ∀ y l, keyOf P k y = some l → y ≠ key → f' y = f y)
    (hK : ∀ w', Dict P k w' b (if (f key).isSome then s else s + 1) f' → w.grownBy w' (some b) → w'.heap.size = w.heap.size → K (a.put o.dst undef) w') : o.wp P a w K Q := by
  obtain ⟨w', hrun, r1, r2, r3⟩ := h.store Kk ht hn hkey val h1 h2
  unfold Oper.wp
  rcases hop with hop | hop
  all_goals
    simp [execOp, hop, hm, hx, hv, hrun, Result.andThen]
    exact hK w' r1 r2 r3
theorem wp_call {K : Act → World → Prop} {f : FuncId} {l : List Operand} {ts : Array TypeId} (al : List Value) (ho : o.op = .call { callee := .value (.func f), args := l.toArray, argTypes := ts }) (hx : l.map a.eval = al)
    (hcall : ∀ args w, (callFunc f args).run P w = .ok (.enter f args) w) (hev : a.eval (.func f) = .func (.func f) #[] #[])
    (h : Calls P f al.toArray w fun e w' => ∃ v, e = .returned v ∧ K (a.put o.dst v) w') : o.wp P a w K Q := by
  subst hx
  unfold Oper.wp execOp
  rw [ho]
  simp only [resolve, Deferred.ofValue, hev, invoke, Sem.run_bind, Result.andThen, Sem.run_pure, Array.empty_append, Array.append_empty, hcall, List.map_toArray]
  refine h.mono fun e w' ⟨v, he, hK⟩ => ?_
  subst he
  exact hK
theorem enters {f : FuncId} {fn : Func} (hf : P.funcs[f]? = some fn) (hname : (fn.name == "runtime.NumGoroutine") = false) (hb : fn.body.isSome = true) (args : Array Value) (w : World) :
    (callFunc f args).run P w = .ok (.enter f args) w := by
  obtain ⟨c, hc⟩ := Option.isSome_iff_exists.1 hb
  unfold callFunc
  rw [Sem.run_bind]
  simp [hf, hc, ne_of_beq_false hname]
end

/-! ### A region whose last operation may do anything: S is asked of the worlds before it alone. -/
section
variable {P : Program} {ops : Array Oper} {Q : Exit → Act → World → Prop} {S : World → Prop} {md : Region.Mode}

/-- Whatever order is picked from here on; behind each operation but number t, S holds. -/
def wpT (P : Program) (md : Region.Mode) (ops : Array Oper) (Q : Exit → Act → World → Prop) (S : World → Prop) (t : Nat) : Nat → Array Bool → Act → World → Prop
  | 0, listed, a, w => Region.ready md ops listed = [] ∧ Q .normal a w
  | fuel + 1, listed, a, w => (Region.ready md ops listed = [] → Q .normal a w) ∧
      ∀ i ∈ Region.ready md ops listed, wpOp P ops Q i (fun a' w' => (i ≠ t → S w') ∧ wpT P md ops Q S t fuel (listed.setIfInBounds i true) a' w') a w
theorem wpT_any {t : Nat} : ∀ (fuel : Nat) {listed : Array Bool} {a : Act} {w : World}, wpT P md ops Q S t fuel listed a w → wpAny P md ops Q fuel listed a w
  | 0, _, _, _, h => h
  | fuel + 1, _, _, _, h => ⟨h.1, fun i hi => wpOp_mono (fun _ _ h' => wpT_any fuel h'.2) (h.2 i hi)⟩

/-- What is listed has what it waits for listed. -/
def Cl (md : Region.Mode) (ops : Array Oper) (listed : Array Bool) : Prop := ∀ k ok, ops[k]? = some ok → listed.getD k false = true → ∀ e ∈ ok.after, Region.binds md e = true → listed.getD e.on false = true
theorem Cl.set {listed : Array Bool} {j : Nat} (h : Cl md ops listed) (hj : j ∈ Region.ready md ops listed) : Cl md ops (listed.setIfInBounds j true) := fun k ok hk hl e he hb => by
  obtain ⟨_, oj, hoj, hall⟩ := mem_ready.1 hj
  by_cases c : j = k
  · subst c
    rw [hoj] at hk
    injection hk with hk
    subst hk
    exact getD_set_true (hall e he hb)
  · rw [getD_set_ne false c] at hl
    exact getD_set_true (h k ok hk hl e he hb)
/-- Does operation t wait for i, by however many steps (at most n)? -/
def waitsB (md : Region.Mode) (ops : Array Oper) : Nat → Nat → Nat → Bool
  | 0, _, _ => false
  | n + 1, t, i => match ops[t]? with | some o => o.after.any fun e => Region.binds md e && (e.on == i || waitsB md ops n e.on i) | none => false
theorem waits_listed {listed : Array Bool} (h : Cl md ops listed) : ∀ (n t i : Nat), waitsB md ops n t i = true → listed.getD t false = true → listed.getD i false = true
  | 0, _, _, hw, _ => by cases hw
  | n + 1, t, i, hw, hl => by
    unfold waitsB at hw
    cases ho : ops[t]? with
    | none => rw [ho] at hw; cases hw
    | some o =>
      rw [ho] at hw
      simp only [Array.any_eq_true'] at hw
      obtain ⟨e, he, hb⟩ := hw
      rw [Bool.and_eq_true, Bool.or_eq_true] at hb
      have h1 := h t o ho hl e he hb.1
      rcases hb.2 with h2 | h2
      · rw [← beq_iff_eq.1 h2]; exact h1
      · exact waits_listed h n _ i h2 h1
theorem waits_ready {listed : Array Bool} (h : Cl md ops listed) {n t i : Nat} (hw : waitsB md ops n t i = true) (ht : t ∈ Region.ready md ops listed) : listed.getD i false = true := by
  obtain ⟨_, o, ho, hall⟩ := mem_ready.1 ht
  cases n with
  | zero => cases hw
  | succ n =>
    unfold waitsB at hw
    rw [ho] at hw
    simp only [Array.any_eq_true'] at hw
    obtain ⟨e, he, hb⟩ := hw
    rw [Bool.and_eq_true, Bool.or_eq_true] at hb
    have h1 := hall e he hb.1
    rcases hb.2 with h2 | h2
    · rw [← beq_iff_eq.1 h2]; exact h1
    · exact waits_listed h n _ i h2 h1
def closedB (md : Region.Mode) (ops : Array Oper) (listed : Array Bool) : Bool := (List.range ops.size).all fun k => !listed.getD k false || (match ops[k]? with | some o => o.after.all fun e => !Region.binds md e || listed.getD e.on false | none => true)
theorem closedB_spec {listed : Array Bool} (h : closedB md ops listed = true) : Cl md ops listed := fun k ok hk hl e he hb => by
  have hlt : k < ops.size := (Array.getElem?_eq_some_iff.1 hk).1
  have h1 := List.all_eq_true.1 h k (List.mem_range.2 hlt)
  rw [hk] at h1
  simp only [hl, Bool.not_true, Bool.false_or] at h1
  have h2 := (Array.all_eq_true_iff_forall_mem.1 h1) e he
  simpa [hb] using h2

/-- Operation i, which t waits for, is taken first. -/
theorem wpT_first {t i n : Nat} {oi : Oper} {v : Value} (hi : ops[i]? = some oi) (hw : waitsB md ops n t i = true) (hs : Region.noSelect ops = true)
    (hQ : ∀ c a w, Q (.panic c) (a.put oi.dst v) w → Q (.panic c) a w) : ∀ (fuel : Nat) (listed : Array Bool) (a : Act) (w : World), Cl md ops listed →
      (∀ j oj, ops[j]? = some oj → j ≠ i → listed.getD j true = false → (∀ e ∈ oj.after, Region.binds md e = true → e.on ≠ i) → oi.apart ops oj = true) →
      i ∈ Region.ready md ops listed → YieldsIf P ops S oi v a → S w →
      wpT P md ops Q S t fuel (listed.setIfInBounds i true) (a.put oi.dst v) w → wpT P md ops Q S t (fuel + 1) listed a w := by
  have hsel := Region.noSelect_spec hs
  intro fuel
  induction fuel with
  | zero =>
    intro listed a w _ _ hr hy hS H
    refine ⟨(fun h => by rw [h] at hr; cases hr), fun j hj => ?_⟩
    by_cases e : j = i
    · subst e
      exact hy.wpOp hi hS ⟨fun _ => hS, H⟩
    · have h0 := ready_mono hj e
      rw [H.1] at h0
      cases h0
  | succ fuel ih =>
    intro listed a w hcl hf hr hy hS H
    refine ⟨(fun h => by rw [h] at hr; cases hr), fun j hj => ?_⟩
    by_cases e : j = i
    · subst e
      exact hy.wpOp hi hS ⟨fun _ => hS, H⟩
    · obtain ⟨hun, oj, hoj, hall⟩ := mem_ready.1 hj
      have hiun : listed.getD i false = false := by
        have h0 := (mem_ready.1 hr).1
        rcases Nat.lt_or_ge i listed.size with h' | h'
        · simp [h'] at h0 ⊢; exact h0
        · simp [Array.getElem?_eq_none h']
      have hnw : ∀ e ∈ oj.after, Region.binds md e = true → e.on ≠ i := fun e he hb hon => by
        have := hall e he hb
        rw [hon, hiun] at this
        cases this
      have hjt : j ≠ t := by
        rintro rfl
        have := waits_ready hcl hw hj
        rw [hiun] at this
        cases this
      have h2 := wpOp_putIf hoj (hf j oj hoj e hun hnw) (fun cs b => hsel i oi cs b hi) (fun cs b => hsel j oj cs b hoj) hQ hy (H.2 j (ready_mono hj e))
      refine wpOp_mono (fun a' w' h3 => ⟨h3.2.1, ih (listed.setIfInBounds j true) a' w' (hcl.set hj) (fun k ok hk hki hun' hno => hf k ok hk hki ?_ hno) (ready_mono hr (Ne.symm e)) h3.1 (h3.2.1 hjt) ?_⟩) h2
      · by_cases hjk : j = k
        · subst hjk; exact hun
        · rw [getD_set_ne true hjk] at hun'; exact hun'
      · rw [Array.setIfInBounds_comm _ _ e]
        exact h3.2.2

theorem wpT_tk (i : Nat) {t : Nat} {d : Option Tmp} {op : Op} {ty : TypeId} {pos : String} {af : Array Edge} {gd : Option (Tmp × Bool)} {v : Value} {fuel : Nat} {listed : Array Bool} {a : Act} {w : World} (hi : ops[i]? = some ⟨d, op, ty, pos, af, gd⟩)
    (hs : Region.noSelect ops = true) (hf : Region.free md ops listed i = true) (hr : (Region.ready md ops listed).contains i = true) (hw : (waitsB md ops 20 t i && closedB md ops listed) = true)
    (hy : YieldsIf P ops S ⟨d, op, ty, pos, af, gd⟩ v a) (hS : S w)
    (h : wpT P md ops (NoPanic Q) S t fuel (listed.setIfInBounds i true) (a.put d v) w) : wpT P md ops (NoPanic Q) S t (fuel + 1) listed a w := by
  rw [Bool.and_eq_true] at hw
  exact wpT_first hi hw.1 hs (fun _ _ _ h => h) fuel listed a w (closedB_spec hw.2) (Region.free_spec hi hf) (by simpa using hr) hy hS h
theorem wpT_1 (i : Nat) {t : Nat} {d : Option Tmp} {op : Op} {ty : TypeId} {pos : String} {af : Array Edge} {fuel : Nat} {listed : Array Bool} {a : Act} {w : World} (ho : ops[i]? = some ⟨d, op, ty, pos, af, none⟩) (hr : Region.ready md ops listed = [i])
    (h : Oper.wp P ⟨d, op, ty, pos, af, none⟩ a w (fun a' w' => (i ≠ t → S w') ∧ wpT P md ops Q S t fuel (listed.setIfInBounds i true) a' w') Q) : wpT P md ops Q S t (fuel + 1) listed a w := by
  refine ⟨(fun h0 => by rw [hr] at h0; cases h0), fun j hj => ?_⟩
  rw [hr] at hj
  obtain rfl : j = i := by simpa using hj
  unfold wpOp
  have hg : Region.wanted (⟨d, op, ty, pos, af, none⟩ : Oper) (yielded ops a.tmps) = true := rfl
  simp only [ho, hg, if_true]
  exact .inl h
theorem wpT_done {t : Nat} {listed : Array Bool} {a : Act} {w : World} (hr : Region.ready md ops listed = []) (h : Q .normal a w) : ∀ fuel, wpT P md ops Q S t fuel listed a w
  | 0 => ⟨hr, h⟩
  | _ + 1 => ⟨fun _ => h, by rw [hr]; simp⟩
theorem wp_region_T {id : Nat} {a : Act} {w : World} (t : Nat) (hm : P.follows .mixedOrders = true) (hS : S w.drew)
    (h : S w.drew → wpT P .any ops (NoPanic Q) S t ops.size (Array.replicate ops.size false) a w.drew) : (Code.region id ops true).wp P Q a w :=
  wp_region_noPanic (wp_region_any hm (wpT_any _ (h hS)))

/-- A call of a function value. -/
theorem wp_callV {o : Oper} {a : Act} {w : World} {K : Act → World → Prop} {x : Operand} {f : FuncId} {l : List Operand} {ts : Array TypeId} {cap : List Value} (al : List Value) (ho : o.op = .call { callee := .value x, args := l.toArray, argTypes := ts }) (hx : l.map a.eval = al)
    (hcall : ∀ args w, (callFunc f args).run P w = .ok (.enter f args) w) (hev : a.eval x = .func (.func f) #[] cap.toArray)
    (h : Calls P f (al ++ cap).toArray w fun e w' => ∃ v, e = .returned v ∧ K (a.put o.dst v) w') : o.wp P a w K Q := by
  subst hx
  unfold Oper.wp execOp
  rw [ho]
  simp only [resolve, Deferred.ofValue, hev, invoke, Sem.run_bind, Result.andThen, Sem.run_pure, Array.empty_append, hcall, List.map_toArray, List.append_toArray]
  refine h.mono fun e w' ⟨v, he, hK⟩ => ?_
  subst he
  exact hK
end
end Go.Proofs.Ytihpmdfeonphpaa
/- More operations of regions that draw their order: a literal of integers, a tail of a slice, either of two first. -/
namespace Go.Proofs.Ytihpmdfeonphpaa
set_option linter.unusedVariables false
set_option linter.unusedSimpArgs false
open Go.RowKit

section
variable {P : Program} {o : Oper} {a : Act} {w : World} {K : Act → World → Prop} {Q : Exit → Act → World → Prop} {ops : Array Oper} {rest : List Oper}
theorem wp_buildSlice_at {t e : TypeId} {len : Nat} {l : List (Nat × Operand)} {cells : Array Value} (ie : TypeInfo) (z : Value) (m : Nat) (vs : List (Nat × Value)) (ho : o.op = .buildSlice t len l.toArray)
    (hu : P.underlying t = some (.slice e)) (hie : P.info? e = some ie) (hz : ie.zero = some z) (hm : ie.size = m) (hsmall : ¬ len * m > 2 ^ 24) (hpos : ¬ len * m = 0) (hv : (l.map fun (i, x) => (i, a.eval x)) = vs)
    (hf : Instr.fill (fun i => some (i * m, m)) ((Array.range (len * m)).map (z.cells[· % z.cells.size]!)) vs = some cells)
    (h : K (a.put o.dst (.slice (some ⟨w.heap.size, 0, none⟩) len len)) (w.alloc (.cells cells e))) : o.wp P a w K Q := by
  subst hm
  subst hv
  exact wp_buildSlice t e len _ ho cells ie z hu hie hz hsmall hpos (by simpa using hf) h
/-- []int{x}. -/
theorem wp_lit_int {t : TypeId} {x : Operand} {v : Int} (ho : o.op = .buildSlice t 1 #[(0, x)]) (hu : P.underlying t = some (.slice 3)) (ie : TypeInfo) (hie : P.info? 3 = some ie) (hz : ie.zero = some (.int .i64 0)) (hm : ie.size = 1) (hv : a.eval x = .int .i64 v)
    (h : K (a.put o.dst (.slice (some ⟨w.heap.size, 0, none⟩) 1 1)) (w.alloc (.cells #[.int .i64 v] 3))) : o.wp P a w K Q :=
  wp_buildSlice_at (l := [(0, x)]) ie _ 1 [(0, .int .i64 v)] ho hu hie hz hm (by decide) (by decide) (by simp [hv]) (by simp [Instr.fill, Value.cells, show Array.range 1 = #[0] from rfl]) h
theorem gives_tail {x : Operand} {t e : TypeId} {ad : Addr} {n c : Nat} (ho : o.op = .slice t x (some (.const (.int .i64 1))) none none) (ht : P.underlying t = some (.slice e)) (hi : (P.info? e).map (·.size) = some 1) (hx : a.eval x = .slice (some ad) n c) (hn : 1 ≤ n) (hc : n ≤ c) :
    Gives P o a w (.slice (if c = 1 then some ad else some (ad.add 1)) (n - 1) (c - 1)) := by
  obtain ⟨ie, hie, hs⟩ := Option.map_eq_some_iff.1 hi
  have he : P.elem t = e := by simp [Program.elem, ht]
  have ht' : P.underlying t = some (.slice (P.elem t)) := by rw [he]; exact ht
  have hsz : (sizeOf (P.elem t)).run P w = .ok 1 w := by rw [he]; simp [sizeOf, typeInfo, hie, hs]
  unfold Gives execOp
  rw [ho]
  have hev : a.eval (.const (.int .i64 1)) = .int .i64 1 := rfl
  simp only [hx, Option.map, hev, run_sliceAt_slice w t _ _ _ _ ht', run_slice_l w t (some ad) n c ht' .i64 1 (by omega) (by omega), hsz, Sem.run_bind, Result.andThen_ok, sliced, Int.toNat_one, Nat.mul_one]
  rfl
theorem gives_index0 {t e : TypeId} {x y : Operand} {ad : Addr} {n c : Nat} (ho : o.op = .indexAddr t x y) (ht : P.underlying t = some (.slice e)) (he : ∀ w, (sizeOf e).run P w = .ok 1 w) (hx : a.eval x = .slice (some ad) n c) (hy : a.eval y = .int .i64 0) (h0 : 0 < n) :
    Gives P o a w (.pointer (some ad)) := by
  have h := gives_indexSlice (k := 0) (m := 1) (w := w) ho ht he hx hy h0
  rwa [show ad.add (0 * 1) = ad by unfold Addr.add; simp] at h
end
/-- One of two, written out. -/
theorem wpAnyH_2 {P : Program} {ops : Array Oper} {Q : Exit → Act → World → Prop} {S : World → Prop} {md : Region.Mode} (i k : Nat) {d d' : Option Tmp} {op op' : Op} {ty ty' : TypeId} {pos pos' : String} {af af' : Array Edge} {fuel : Nat} {listed : Array Bool} {a : Act} {w : World}
    (ho : ops[i]? = some ⟨d, op, ty, pos, af, none⟩) (ho' : ops[k]? = some ⟨d', op', ty', pos', af', none⟩) (hr : Region.ready md ops listed = [i, k])
    (h : Oper.wp P ⟨d, op, ty, pos, af, none⟩ a w (fun a' w' => S w' ∧ wpAnyH P md ops Q S fuel (listed.setIfInBounds i true) a' w') Q) (h' : Oper.wp P ⟨d', op', ty', pos', af', none⟩ a w (fun a' w' => S w' ∧ wpAnyH P md ops Q S fuel (listed.setIfInBounds k true) a' w') Q) : wpAnyH P md ops Q S (fuel + 1) listed a w :=
  wpAnyH_two hr ho ho' rfl rfl h h'
end Go.Proofs.Ytihpmdfeonphpaa
/- Powers of words and their roots. -/
namespace Go.Proofs.Ytihpmdfeonphpaa
set_option linter.unusedVariables false
set_option linter.unusedSimpArgs false

theorem getD_app (a b : List Int) (i : Nat) : (a ++ b).getD i 0 = if i < a.length then a.getD i 0 else b.getD (i - a.length) 0 := by
  simp only [List.getD, List.getElem?_append]
  split <;> rfl
theorem Red.glue {a b c : List Int} (h1 : Red (a ++ b)) (h2 : Red (b ++ c)) (hb : b ≠ []) : Red (a ++ b ++ c) := by
  have hbl : 0 < b.length := List.length_pos_iff.2 hb
  rw [red_iff] at h1 h2 ⊢
  intro i hi
  simp only [List.length_append] at hi h1 h2
  by_cases h : i + 1 < a.length + b.length
  · have := h1 i h
    rw [getD_app (a ++ b) c, getD_app (a ++ b) c, if_pos (by simp; omega), if_pos (by simp; omega)]
    exact this
  · have := h2 (i - a.length) (by omega)
    rw [show i - a.length + 1 = i + 1 - a.length by omega] at this
    rw [List.append_assoc, getD_app a, getD_app a, if_neg (by omega), if_neg (by omega)]
    exact this
theorem Cyc.of_rep {d : List Int} {n : Nat} (hn : 0 < n) (h : Cyc (rep d n)) : Cyc d := by
  intro hd
  have hl := rep_length d n
  have hm : d.length ≤ n * d.length := Nat.le_mul_of_pos_left _ hn
  have h1 := h (by omega)
  rw [rep_getD d n 0 (by omega), rep_getD d n ((rep d n).length - 1) (by omega), Nat.zero_mod, hl] at h1
  have e : (n * d.length - 1) % d.length = d.length - 1 := by
    obtain ⟨m, rfl⟩ : ∃ m, n = m + 1 := ⟨n - 1, by omega⟩
    rw [Nat.succ_mul, show m * d.length + d.length - 1 = d.length - 1 + d.length * m by rw [Nat.mul_comm]; omega, Nat.add_mul_mod_self_left]
    exact Nat.mod_eq_of_lt (by omega)
  rw [e] at h1
  exact h1
theorem red_root {U d : List Int} {n : Nat} (hn : 0 < n) (hd : d ≠ []) (h : Red (U ++ rep d n ++ invw U)) : Red (U ++ d ++ invw U) := by
  obtain ⟨m, rfl⟩ : ∃ m, n = m + 1 := ⟨n - 1, by omega⟩
  refine Red.glue ?_ ?_ hd
  · have h1 := Red.append_left h
    rw [rep_succ, ← List.append_assoc] at h1
    exact Red.append_left h1
  · rw [rep_succ', ← List.append_assoc, List.append_assoc (U ++ rep d m)] at h
    exact Red.append_right h
theorem nf_rep_nf (x : List Int) : ∀ k, nf (rep (nf x) k) = nf (rep x k)
  | 0 => rfl
  | k + 1 => by rw [rep_succ, rep_succ, nf_left, ← nf_right, nf_rep_nf x k, nf_right]
theorem nf_rep_succ (x : List Int) (k : Nat) : nf (nf (rep x k) ++ x) = nf (rep x (k + 1)) := by rw [nf_left, rep_succ']

/-- What a root does. -/
structure RootP (x : List Int) (d : List Int) (n : Nat) : Prop where
  pos : 0 < n
  back : nf (rep ((core (nf x)).2 ++ d ++ invw (core (nf x)).2) n) = nf x
  mid : ∀ i, i ≤ n → (nf (rep ((core (nf x)).2 ++ d ++ invw (core (nf x)).2) i)).length ≤ (nf x).length
  red : Red ((core (nf x)).2 ++ d ++ invw (core (nf x)).2)
  mem : ∀ a, a ∈ (core (nf x)).2 ++ d ++ invw (core (nf x)).2 → a ∈ nf x
  pow : ∀ k, 0 < k → nf (rep x k) ≠ [] ∧ (core (nf (rep x k))).2 = (core (nf x)).2 ∧ IsRoot (core (nf (rep x k))).1 d (n * k)
theorem rootP {x d : List Int} {n : Nat} (h0 : ∀ a ∈ x, a ≠ 0) (hne : nf x ≠ []) (hr : IsRoot (core (nf x)).1 d n) : RootP x d n := by
  have hW := nf_red x
  have hW0 : ∀ a ∈ nf x, a ≠ 0 := fun a ha => h0 a (nf_mem ha)
  have hWW : nf (rep (nf x) 1) = nf x := by rw [rep_one, nf_nf]
  have hpw : ∀ k, nf (rep x k) = nf (rep (nf x) k) := fun k => (nf_rep_nf x k).symm
  obtain ⟨W, hWe⟩ : ∃ W, nf x = W := ⟨_, rfl⟩
  rw [hWe] at hW hWW hW0 hne hr
  simp only [hWe] at hpw
  obtain ⟨hs, hcyc⟩ := core_spec W
  have hcne : (core W).1 ≠ [] := by
    intro h
    rw [h, List.append_nil] at hs
    have h2 := nf_of_red hW
    rw [hs, nf_mul_inv] at h2
    exact hne (by rw [hs]; exact h2.symm)
  obtain ⟨C, hC⟩ : ∃ C, (core W).1 = C := ⟨_, rfl⟩
  obtain ⟨U, hU⟩ : ∃ U, (core W).2 = U := ⟨_, rfl⟩
  have heq := hr.eq
  rw [hC] at hs hcyc hcne hr heq
  rw [hU] at hs
  have hn : 0 < n := by
    rcases Nat.eq_zero_or_pos n with e | e
    · rw [e, rep_zero] at heq
      exact absurd heq hcne
    · exact e
  have hd : d ≠ [] := by
    intro e
    have h1 := rep_length d n
    rw [← heq, e] at h1
    exact hcne (List.eq_nil_of_length_eq_zero (by simpa using h1))
  have hredW : Red (U ++ C ++ invw U) := by rw [← hs]; exact hW
  have hC0 : ∀ a ∈ C, a ≠ 0 := fun a ha => hW0 a (by rw [hs]; exact List.mem_append_left _ (List.mem_append_right _ ha))
  have hmem : ∀ a ∈ d, a ∈ C := by
    intro a ha
    obtain ⟨m, rfl⟩ : ∃ m, n = m + 1 := ⟨n - 1, by omega⟩
    rw [heq, rep_succ]
    exact List.mem_append_left _ ha
  have hd0 : ∀ a ∈ d, a ≠ 0 := fun a ha => hC0 a (hmem a ha)
  have hcd : Cyc d := by
    rw [heq] at hcyc
    exact hcyc.of_rep hn
  have hredU : Red (U ++ d ++ invw U) := red_root hn hd (by rw [← heq]; exact hredW)
  have hpow : ∀ i, 0 < i → nf (rep (U ++ d ++ invw U) i) = U ++ rep d i ++ invw U := fun i hi => (nf_rep hredU hcd hd hd0 hi).1
  refine ⟨hn, ?_, ?_, by rw [hWe, hU]; exact hredU, ?_, ?_⟩
  · rw [hWe, hU, hpow n hn, ← heq, ← hs]
  · intro i hi
    rw [hWe, hU]
    rcases Nat.eq_zero_or_pos i with e | e
    · rw [e, rep_zero]
      exact Nat.zero_le _
    · rw [hpow i e, hs, heq]
      simp only [List.length_append, rep_length]
      have := Nat.mul_le_mul_right d.length hi
      omega
  · intro a ha
    rw [hWe, hU] at ha
    rw [hWe, hs]
    rcases List.mem_append.1 ha with h | h
    · rcases List.mem_append.1 h with h | h
      · exact List.mem_append_left _ (List.mem_append_left _ h)
      · exact List.mem_append_left _ (List.mem_append_right _ (hmem a h))
    · exact List.mem_append_right _ h
  · intro k hk
    obtain ⟨h1, h2, h3⟩ := nf_rep hredW hcyc hcne hC0 hk
    have h4 : nf (rep W k) = U ++ rep C k ++ invw U := by rw [hs, h1]
    rw [hpw k, h4, hWe, hU]
    have hrne : rep C k ≠ [] := by
      intro e
      have := rep_length C k
      rw [e] at this
      have hcl : 0 < C.length := List.length_pos_iff.2 hcne
      have := Nat.mul_pos hk hcl
      simp at *
      omega
    have hcu := core_unique (u := U) h3 hrne
    rw [hcu]
    refine ⟨fun e => ?_, rfl, hr.pow hcne hk⟩
    have := congrArg List.length e
    simp only [List.length_append, List.length_nil] at this
    exact hrne (List.eq_nil_of_length_eq_zero (by omega))
theorem mem_rep {x : List Int} {a : Int} {k : Nat} (h : a ∈ rep x k) : a ∈ x := by
  unfold rep at h
  obtain ⟨l, hl, ha⟩ := List.mem_flatten.1 h
  rw [List.eq_of_mem_replicate hl] at ha
  exact ha
theorem nf_rep_len (x : List Int) (k : Nat) : (nf (rep x k)).length ≤ k * x.length := by
  have := nf_len_le (rep x k)
  rwa [rep_length] at this
end Go.Proofs.Ytihpmdfeonphpaa
/- Conjugate words: their cyclically reduced parts are rotations of each other. -/
namespace Go.Proofs.Ytihpmdfeonphpaa
set_option linter.unusedVariables false
set_option linter.unusedSimpArgs false

/-- The first i letters moved to the end, one after another. -/
def rotI (c : List Int) : Nat → List Int
  | 0 => c
  | i + 1 => (rotI c i).drop 1 ++ (rotI c i).take 1
theorem rotI_length (c : List Int) : ∀ i, (rotI c i).length = c.length
  | 0 => rfl
  | i + 1 => by
    have ih := rotI_length c i
    simp only [rotI, List.length_append, List.length_drop, List.length_take]
    omega
theorem rotI_eq (c : List Int) : ∀ i, i ≤ c.length → rotI c i = c.drop i ++ c.take i
  | 0, _ => by simp [rotI]
  | i + 1, h => by
    have ih := rotI_eq c i (by omega)
    have e1 : c.drop i = c[i] :: c.drop (i + 1) := List.drop_eq_getElem_cons h
    simp only [rotI, ih, e1, List.cons_append, List.drop_succ_cons, List.drop_zero, List.take_succ_cons, List.take_zero]
    rw [List.append_assoc, List.take_succ_eq_append_getElem h]
open Classical in
/-- d is c with letters moved from the front to the end. -/
noncomputable def conjB (c d : List Int) : Bool := decide (∃ r, r ≤ c.length ∧ rotI c r = d)
theorem conjB_true {c d : List Int} {r : Nat} (hr : r ≤ c.length) (h : rotI c r = d) : conjB c d = true := by
  unfold conjB
  exact decide_eq_true ⟨r, hr, h⟩
theorem conjB_false {c d : List Int} (h : ∀ r, r ≤ c.length → rotI c r ≠ d) : conjB c d = false := by
  unfold conjB
  exact decide_eq_false fun ⟨r, hr, e⟩ => h r hr e

/-- A rotation. -/
def Rot (c d : List Int) : Prop := ∃ p q, c = p ++ q ∧ d = q ++ p
theorem Rot.refl (c : List Int) : Rot c c := ⟨[], c, rfl, by simp⟩
theorem Rot.symm {c d : List Int} (h : Rot c d) : Rot d c := by
  obtain ⟨p, q, h1, h2⟩ := h
  exact ⟨q, p, h2, h1⟩
theorem Rot.trans {c d e : List Int} (h : Rot c d) (h' : Rot d e) : Rot c e := by
  obtain ⟨p, q, rfl, rfl⟩ := h
  obtain ⟨p', q', h1, rfl⟩ := h'
  rcases List.append_eq_append_iff.1 h1 with ⟨a, rfl, rfl⟩ | ⟨a, rfl, rfl⟩
  · exact ⟨a, q' ++ q, by simp, by simp⟩
  · exact ⟨p ++ p', a, by simp, by simp⟩
theorem Rot.length {c d : List Int} (h : Rot c d) : c.length = d.length := by
  obtain ⟨p, q, rfl, rfl⟩ := h
  simp only [List.length_append]
  omega
theorem rot_iff {c d : List Int} : conjB c d = true ↔ Rot c d := by
  constructor
  · intro h
    unfold conjB at h
    obtain ⟨r, hr, h1⟩ := of_decide_eq_true h
    rw [rotI_eq c r hr] at h1
    exact ⟨c.take r, c.drop r, (List.take_append_drop r c).symm, h1.symm⟩
  · rintro ⟨p, q, rfl, rfl⟩
    refine conjB_true (r := p.length) (by simp) ?_
    rw [rotI_eq _ _ (by simp)]
    simp
theorem conjB_comm (c d : List Int) : conjB c d = conjB d c := by
  rw [Bool.eq_iff_iff, rot_iff, rot_iff]
  exact ⟨Rot.symm, Rot.symm⟩
theorem Rot.sum {c d : List Int} (h : Rot c d) (f : Int → Int) : (c.map f).sum = (d.map f).sum := by
  obtain ⟨p, q, rfl, rfl⟩ := h
  simp only [List.map_append, List.sum_append]
  omega

theorem core_cyc {c : List Int} (hc : Cyc c) (hne : c ≠ []) : core c = (c, []) := by
  have := core_unique (u := []) hc hne
  simpa [invw] using this
theorem red_ends {a : Int} {W : List Int} (hW : Red W) (hne : W ≠ []) (h1 : a ≠ -W.getD 0 0) (h2 : W.getD (W.length - 1) 0 ≠ a) : Red (a :: W ++ [-a]) := by
  have hl : 0 < W.length := List.length_pos_iff.2 hne
  refine Red.glue (a := [a]) (b := W) (c := [-a]) ?_ ?_ hne
  · exact Red.append (a := [a]) (b := W) trivial hW (fun _ _ => by simpa using h1)
  · exact Red.append hW trivial (fun _ _ => by simpa using h2)
theorem core_letter {a : Int} {W : List Int} (hW : Red W) (h0 : ∀ x ∈ W, x ≠ 0) : Rot (core W).1 (core (nf (a :: W ++ [-a]))).1 := by
  obtain ⟨hs, hcyc⟩ := core_spec W
  by_cases hWn : W = []
  · subst hWn
    have : nf [a, -a] = [] := nf_mul_inv [a]
    show Rot (core []).1 (core (nf [a, -a])).1
    rw [this]
    exact Rot.refl _
  · have hcne : (core W).1 ≠ [] := by
      intro h
      rw [h, List.append_nil] at hs
      have h2 := nf_of_red hW
      rw [hs, nf_mul_inv] at h2
      exact hWn (by rw [hs]; exact h2.symm)
    obtain ⟨C, hC⟩ : ∃ C, (core W).1 = C := ⟨_, rfl⟩
    obtain ⟨U, hU⟩ : ∃ U, (core W).2 = U := ⟨_, rfl⟩
    rw [hC, hU] at hs
    rw [hC] at hcyc hcne ⊢
    have hl : 0 < W.length := List.length_pos_iff.2 hWn
    by_cases hfree : a ≠ -W.getD 0 0 ∧ W.getD (W.length - 1) 0 ≠ a
    · have hr := red_ends hW hWn hfree.1 hfree.2
      rw [nf_of_red hr]
      have e : a :: W ++ [-a] = (a :: U) ++ C ++ invw (a :: U) := by rw [invw_cons, hs]; simp
      rw [e, core_unique hcyc hcne]
      exact Rot.refl _
    · match U, hs with
      | b :: U', hs =>
        have hWb : W = b :: (U' ++ C ++ invw U') ++ [-b] := by rw [hs, invw_cons]; simp
        have hab : a = -b := by
          have e1 : W.getD 0 0 = b := by rw [hWb]; rfl
          have e2 : W.getD (W.length - 1) 0 = -b := by rw [hWb]; exact getD_last _ _
          rw [e1, e2] at hfree
          by_cases h : a = -b
          · exact h
          · exact absurd ⟨h, fun h' => h h'.symm⟩ hfree
        have hM : Red (U' ++ C ++ invw U') := by
          rw [hWb] at hW
          exact Red.tail (Red.append_left hW)
        have e : nf (a :: W ++ [-a]) = U' ++ C ++ invw U' := by
          rw [hWb, hab]
          have h1 : (-b) :: (b :: (U' ++ C ++ invw U') ++ [-b]) ++ [- -b] = (invw [b] ++ [b]) ++ ((U' ++ C ++ invw U') ++ ([-b] ++ invw [-b])) := by simp [invw]
          rw [h1, ← nf_left, nf_inv_mul, List.nil_append, ← nf_right, nf_mul_inv, List.append_nil, nf_of_red hM]
        rw [e, core_unique hcyc hcne]
        exact Rot.refl _
      | [], hs =>
        have hWC : W = C := by rw [hs]; simp [invw]
        subst hWC
        by_cases ha : a = -W.getD 0 0
        · obtain ⟨g, C', rfl⟩ : ∃ g C', W = g :: C' := by
            match W, hWn with
            | g :: t, _ => exact ⟨g, t, rfl⟩
          have hag : a = -g := ha
          subst hag
          have e0 : nf ((-g) :: (g :: C') ++ [- -g]) = nf (C' ++ [g]) := by
            have h1 : (-g) :: (g :: C') ++ [- -g] = (invw [g] ++ [g]) ++ (C' ++ [g]) := by simp [invw]
            rw [h1, ← nf_left, nf_inv_mul, List.nil_append]
          have hr : Red (C' ++ [g]) := Red.append (Red.tail hW) trivial (fun hc _ => by
            have hcl := List.length_pos_iff.2 hc
            have h1 := hcyc (by simp; omega)
            have e2 : (g :: C').getD ((g :: C').length - 1) 0 = C'.getD (C'.length - 1) 0 := by
              obtain ⟨k, hk⟩ : ∃ k, C'.length = k + 1 := ⟨C'.length - 1, by omega⟩
              simp [List.getD, hk]
            rw [e2] at h1
            have e3 : (g :: C').getD 0 0 = g := rfl
            rw [e3] at h1
            show C'.getD (C'.length - 1) 0 ≠ -g
            omega)
          have hcy : Cyc (C' ++ [g]) := by
            intro hlen
            have hcl : 0 < C'.length := by simp at hlen; omega
            rw [getD_last, getD_app, if_pos hcl]
            have h1 := (red_iff.1 hW) 0 (by simp; omega)
            have e3 : (g :: C').getD 0 0 = g := rfl
            have e4 : (g :: C').getD (0 + 1) 0 = C'.getD 0 0 := rfl
            rw [e3, e4] at h1
            omega
          rw [e0, nf_of_red hr, core_cyc hcy (by simp)]
          exact ⟨[g], C', rfl, rfl⟩
        · have hla : W.getD (W.length - 1) 0 = a := by
            by_cases h : W.getD (W.length - 1) 0 = a
            · exact h
            · exact absurd ⟨ha, h⟩ hfree
          obtain ⟨C', g, rfl⟩ : ∃ C' g, W = C' ++ [g] := ⟨W.dropLast, W.getLast hWn, (List.dropLast_concat_getLast hWn).symm⟩
          rw [getD_last] at hla
          subst hla
          have e0 : nf (g :: (C' ++ [g]) ++ [-g]) = nf (g :: C') := by
            have h1 : g :: (C' ++ [g]) ++ [-g] = (g :: C') ++ ([g] ++ invw [g]) := by simp [invw]
            rw [h1, ← nf_right, nf_mul_inv, List.append_nil]
          have hr : Red (g :: C') := Red.append (a := [g]) (b := C') trivial (Red.append_left hW) (fun _ hc => by
            have hcl := List.length_pos_iff.2 hc
            rw [getD_app, if_pos hcl] at ha
            simpa using ha)
          have hcy : Cyc (g :: C') := by
            intro hlen
            have hcl : 0 < C'.length := by simp at hlen; omega
            obtain ⟨k, hk⟩ : ∃ k, C'.length = k + 1 := ⟨C'.length - 1, by omega⟩
            have e2 : (g :: C').getD ((g :: C').length - 1) 0 = C'.getD k 0 := by simp [List.getD, hk]
            have e3 : (g :: C').getD 0 0 = g := rfl
            rw [e2, e3]
            have h1 := (red_iff.1 hW) k (by simp; omega)
            rw [getD_app, if_pos (by omega), getD_app, if_neg (by omega)] at h1
            have e4 : [g].getD (k + 1 - C'.length) 0 = g := by rw [hk]; simp
            rw [e4] at h1
            omega
          rw [e0, nf_of_red hr, core_cyc hcy (by simp)]
          exact ⟨C', [g], rfl, rfl⟩
theorem core_conj (x : List Int) (hx : ∀ a ∈ x, a ≠ 0) : ∀ (u : List Int), (∀ a ∈ u, a ≠ 0) → Rot (core (nf x)).1 (core (nf (u ++ x ++ invw u))).1
  | [], _ => by simpa [invw] using Rot.refl _
  | a :: u, hu => by
    have ih := core_conj x hx u fun b hb => hu b (List.mem_cons_of_mem _ hb)
    have h0 : ∀ b ∈ nf (u ++ x ++ invw u), b ≠ 0 := by
      intro b hb
      have hb := nf_mem hb
      rcases List.mem_append.1 hb with hb | hb
      · rcases List.mem_append.1 hb with hb | hb
        · exact hu b (List.mem_cons_of_mem _ hb)
        · exact hx b hb
      · unfold invw at hb
        rw [List.mem_reverse, List.mem_map] at hb
        obtain ⟨y, hy, rfl⟩ := hb
        have := hu y (List.mem_cons_of_mem _ hy)
        omega
    have h1 := core_letter (a := a) (nf_red (u ++ x ++ invw u)) h0
    have e : nf (a :: nf (u ++ x ++ invw u) ++ [-a]) = nf (a :: u ++ x ++ invw (a :: u)) := by
      have h2 : a :: nf (u ++ x ++ invw u) ++ [-a] = [a] ++ nf (u ++ x ++ invw u) ++ [-a] := rfl
      rw [h2, nf_mid, invw_cons]
      congr 1
      simp
    rw [e] at h1
    exact ih.trans h1
/-- A sum over the letters that changes its sign with them: nf, core and rotations keep it. -/
def wsum (f : Int → Int) (w : List Int) : Int := (w.map f).sum
theorem wsum_append (f : Int → Int) (a b : List Int) : wsum f (a ++ b) = wsum f a + wsum f b := by simp [wsum]
theorem wsum_cns {f : Int → Int} (hf : ∀ x, f (-x) = -f x) (x : Int) (w : List Int) : wsum f (cns x w) = f x + wsum f w := by
  match w with
  | [] => simp [cns, wsum]
  | y :: t =>
    rw [cns_cons]
    by_cases h : x = -y
    · rw [if_pos h, h, hf]
      simp only [wsum, List.map_cons, List.sum_cons]
      omega
    · rw [if_neg h]
      simp [wsum]
theorem wsum_nf {f : Int → Int} (hf : ∀ x, f (-x) = -f x) : ∀ w, wsum f (nf w) = wsum f w
  | [] => rfl
  | x :: w => by
    show wsum f (cns x (nf w)) = _
    rw [wsum_cns hf, wsum_nf hf w]
    simp [wsum]
theorem wsum_invw {f : Int → Int} (hf : ∀ x, f (-x) = -f x) : ∀ w, wsum f (invw w) = -wsum f w
  | [] => rfl
  | x :: w => by
    rw [invw_cons, wsum_append, wsum_invw hf w]
    simp only [wsum, List.map_cons, List.map_nil, List.sum_cons, List.sum_nil, hf]
    omega
theorem wsum_core {f : Int → Int} (hf : ∀ x, f (-x) = -f x) (w : List Int) : wsum f (core (nf w)).1 = wsum f w := by
  have h := congrArg (wsum f) (core_spec (nf w)).1
  rw [wsum_append, wsum_append, wsum_invw hf, wsum_nf hf] at h
  omega
theorem wsum_rot {f : Int → Int} {c d : List Int} (h : Rot c d) : wsum f c = wsum f d := h.sum f
end Go.Proofs.Ytihpmdfeonphpaa
/- The Artin representation: letters act on reduced words. -/
namespace Go.Proofs.Ytihpmdfeonphpaa
set_option linter.unusedVariables false
set_option linter.unusedSimpArgs false

/-- The image of the generator of a letter z under the letter y. -/
def artV (y z : Int) : List Int :=
  if 0 < y then
    if z.natAbs = y.natAbs then [(y.natAbs : Int), (y.natAbs : Int) + 1, -(y.natAbs : Int)] else if z.natAbs = y.natAbs + 1 then [(y.natAbs : Int)] else [(z.natAbs : Int)]
  else
    if z.natAbs = y.natAbs then [(y.natAbs : Int) + 1] else if z.natAbs = y.natAbs + 1 then [-(y.natAbs : Int) - 1, (y.natAbs : Int), (y.natAbs : Int) + 1] else [(z.natAbs : Int)]
def artL (y z : Int) : List Int := if z < 0 then invw (artV y z) else artV y z
def artW (y : Int) (u : List Int) : List Int := u.flatMap (artL y)
/-- All letters of a braid word, one after another, without reducing. -/
def artC (w u : List Int) : List Int := w.foldl (fun u y => artW y u) u
/-- The same, reduced after each letter. -/
def artF (w u : List Int) : List Int := w.foldl (fun u y => nf (artW y u)) u
def nz (u : List Int) : Prop := ∀ z ∈ u, z ≠ 0
theorem nz_nil : nz [] := fun z h => by cases h
theorem nz.app {u v : List Int} (hu : nz u) (hv : nz v) : nz (u ++ v) := fun z h => (List.mem_append.1 h).elim (hu z) (hv z)
theorem nz.inv {u : List Int} (hu : nz u) : nz (invw u) := fun z h => by
  have : ∃ x ∈ u, -x = z := by simpa [invw] using h
  obtain ⟨x, hx, rfl⟩ := this
  have := hu x hx
  omega
theorem nz.nf {u : List Int} (hu : nz u) : nz (Proofs.Ytihpmdfeonphpaa.nf u) := fun z h => hu z (nf_mem h)
theorem artL_neg (y : Int) {z : Int} (hz : z ≠ 0) : artL y (-z) = invw (artL y z) := by
  have hv : artV y (-z) = artV y z := by unfold artV; rw [Int.natAbs_neg]
  unfold artL
  rw [hv]
  by_cases h : z < 0
  · rw [if_neg (by omega), if_pos h, invw_invw]
  · rw [if_pos (by omega), if_neg h]
theorem artV_nz {y z : Int} (hy : y ≠ 0) (hz : z ≠ 0) : nz (artV y z) := by
  unfold artV
  intro x hx
  split at hx <;> split at hx <;> (try split at hx) <;> simp at hx <;> omega
theorem artL_nz {y z : Int} (hy : y ≠ 0) (hz : z ≠ 0) : nz (artL y z) := by
  unfold artL
  split
  · exact (artV_nz hy hz).inv
  · exact artV_nz hy hz
theorem artW_nil (y : Int) : artW y [] = [] := rfl
theorem artW_append (y : Int) (u v : List Int) : artW y (u ++ v) = artW y u ++ artW y v := by simp [artW]
theorem artW_one (y z : Int) : artW y [z] = artL y z := by simp [artW]
theorem artW_cons (y z : Int) (u : List Int) : artW y (z :: u) = artL y z ++ artW y u := by simp [artW]
theorem artW_nz {y : Int} (hy : y ≠ 0) {u : List Int} (hu : nz u) : nz (artW y u) := fun x hx => by
  obtain ⟨z, hz, h⟩ := List.mem_flatMap.1 hx
  exact artL_nz hy (hu z hz) x h
theorem artW_invw (y : Int) : ∀ {u : List Int}, nz u → artW y (invw u) = invw (artW y u)
  | [], _ => rfl
  | z :: u, h => by
    rw [invw_cons, artW_append, artW_one, artL_neg y (h z (by simp)), artW_cons y z u, invw_append, artW_invw y (fun x hx => h x (by simp [hx]))]
theorem nf_drop_mid (p x s : List Int) : nf (p ++ x ++ invw x ++ s) = nf (p ++ s) := by
  have e : p ++ x ++ invw x ++ s = p ++ (x ++ invw x) ++ s := by simp
  rw [e, ← nf_mid, nf_mul_inv]
  simp
theorem del_artW (y : Int) {a b : List Int} (h : Del a b) (ha : nz a) : nf (artW y a) = nf (artW y b) := by
  obtain ⟨p, x, s, rfl, rfl⟩ := h
  have hx : x ≠ 0 := ha x (by simp)
  rw [artW_append, artW_append, artW_cons, artW_cons, artL_neg y hx]
  have e : artW y p ++ (artL y x ++ (invw (artL y x) ++ artW y s)) = artW y p ++ artL y x ++ invw (artL y x) ++ artW y s := by simp
  rw [e, nf_drop_mid]
theorem Del.nz {a b : List Int} (h : Del a b) (ha : Proofs.Ytihpmdfeonphpaa.nz a) : Proofs.Ytihpmdfeonphpaa.nz b := by
  obtain ⟨p, x, s, rfl, rfl⟩ := h
  intro z hz
  refine ha z ?_
  rcases List.mem_append.1 hz with h | h
  · simp [h]
  · simp [h]
theorem dels_artW (y : Int) {a b : List Int} (h : Dels a b) : nz a → nf (artW y a) = nf (artW y b) := by
  induction h with
  | refl => intro _; rfl
  | step d _ ih => intro ha; exact (del_artW y d ha).trans (ih (d.nz ha))
/-- What a letter does does not depend on how a word is written. -/
theorem nf_artW (y : Int) {u : List Int} (hu : nz u) : nf (artW y (nf u)) = nf (artW y u) := (dels_artW y (dels_nf u) hu).symm
theorem artW_congr (y : Int) {u v : List Int} (hu : nz u) (hv : nz v) (h : nf u = nf v) : nf (artW y u) = nf (artW y v) := by rw [← nf_artW y hu, h, nf_artW y hv]
theorem artC_append (w u v : List Int) : artC w (u ++ v) = artC w u ++ artC w v := by
  induction w generalizing u v with
  | nil => rfl
  | cons y w ih =>
    show artC w (artW y (u ++ v)) = artC w (artW y u) ++ artC w (artW y v)
    rw [artW_append, ih]
theorem artC_cons (y : Int) (w u : List Int) : artC (y :: w) u = artC w (artW y u) := rfl
theorem artC_app (a b u : List Int) : artC (a ++ b) u = artC b (artC a u) := by unfold artC; rw [List.foldl_append]
theorem artC_nil (w : List Int) : artC w [] = [] := by
  induction w with
  | nil => rfl
  | cons y w ih => exact ih
theorem artC_nz : ∀ {w u : List Int}, nz w → nz u → nz (artC w u)
  | [], u, _, hu => hu
  | y :: w, u, hw, hu => artC_nz (w := w) (fun x hx => hw x (by simp [hx])) (artW_nz (hw y (by simp)) hu)
theorem artC_invw : ∀ {w u : List Int}, nz w → nz u → artC w (invw u) = invw (artC w u)
  | [], _, _, _ => rfl
  | y :: w, u, hw, hu => by
    rw [artC_cons, artC_cons, artW_invw y hu, artC_invw (fun x hx => hw x (by simp [hx])) (artW_nz (hw y (by simp)) hu)]
theorem artC_congr : ∀ {w u v : List Int}, nz w → nz u → nz v → nf u = nf v → nf (artC w u) = nf (artC w v)
  | [], _, _, _, _, _, h => h
  | y :: w, u, v, hw, hu, hv, h => artC_congr (w := w) (fun x hx => hw x (by simp [hx])) (artW_nz (hw y (by simp)) hu) (artW_nz (hw y (by simp)) hv) (artW_congr y hu hv h)
/-- Reducing on the way changes nothing. -/
theorem artF_nf : ∀ {w u : List Int}, nz w → nz u → artF w (nf u) = nf (artC w u)
  | [], _, _, _ => rfl
  | y :: w, u, hw, hu => by
    show artF w (nf (artW y (nf u))) = nf (artC w (artW y u))
    rw [nf_artW y hu]
    exact artF_nf (fun x hx => hw x (by simp [hx])) (artW_nz (hw y (by simp)) hu)
/-- Braid words that act alike. -/
def RelA (a b : List Int) : Prop := ∀ u, nz u → nf (artC a u) = nf (artC b u)
theorem relA_of {a b : List Int} (ha : nz a) (hb : nz b) (h : ∀ k : Nat, 0 < k → nf (artC a [(k : Int)]) = nf (artC b [(k : Int)])) : RelA a b := by
  intro u hu
  induction u with
  | nil => rw [artC_nil, artC_nil]
  | cons z u ih =>
    have hz : z ≠ 0 := hu z (by simp)
    have h1 : nf (artC a [z]) = nf (artC b [z]) := by
      by_cases hp : 0 < z
      · have := h z.toNat (by omega)
        rw [show ((z.toNat : Nat) : Int) = z by omega] at this
        exact this
      · have h2 := h (-z).toNat (by omega)
        rw [show (((-z).toNat : Nat) : Int) = -z by omega] at h2
        have hn : nz [-z] := fun x hx => by simp at hx; omega
        have e : [z] = invw [-z] := by simp [invw]
        rw [e, artC_invw ha hn, artC_invw hb hn, nf_invw, nf_invw, h2]
    have h3 := ih (fun x hx => hu x (by simp [hx]))
    rw [show z :: u = [z] ++ u from rfl, artC_append, artC_append, ← nf_left, ← nf_right, h1, h3, nf_left, nf_right]
theorem RelA.symm {a b : List Int} (h : RelA a b) : RelA b a := fun u hu => (h u hu).symm
theorem RelA.mid {a b : List Int} (h : RelA a b) (ha : nz a) (hb : nz b) {p s : List Int} (hp : nz p) (hs : nz s) : RelA (p ++ a ++ s) (p ++ b ++ s) := fun u hu => by
  rw [artC_app, artC_app, artC_app, artC_app]
  have h1 := artC_nz hp hu
  exact artC_congr hs (artC_nz ha h1) (artC_nz hb h1) (h _ h1)
theorem artV_other {y z : Int} (h1 : z.natAbs ≠ y.natAbs) (h2 : z.natAbs ≠ y.natAbs + 1) : artV y z = [(z.natAbs : Int)] := by
  unfold artV
  by_cases h : 0 < y
  · rw [if_pos h, if_neg h1, if_neg h2]
  · rw [if_neg h, if_neg h1, if_neg h2]
theorem artL_p {a : Nat} (ha : 0 < a) : artL (a : Int) (a : Int) = [(a : Int), (a : Int) + 1, -(a : Int)] := by
  unfold artL artV
  rw [if_neg (by omega), if_pos (by omega), if_pos rfl, Int.natAbs_natCast]
theorem artL_p1 {a : Nat} (ha : 0 < a) : artL (a : Int) ((a : Int) + 1) = [(a : Int)] := by
  unfold artL artV
  rw [if_neg (by omega), if_pos (by omega), if_neg (by omega), if_pos (by omega), Int.natAbs_natCast]
theorem artL_n {a : Nat} (ha : 0 < a) : artL (-(a : Int)) (a : Int) = [(a : Int) + 1] := by
  unfold artL artV
  rw [if_neg (by omega), if_neg (by omega), if_pos (by omega), Int.natAbs_neg, Int.natAbs_natCast]
theorem artL_n1 {a : Nat} (ha : 0 < a) : artL (-(a : Int)) ((a : Int) + 1) = [-(a : Int) - 1, (a : Int), (a : Int) + 1] := by
  unfold artL artV
  rw [if_neg (by omega), if_neg (by omega), if_neg (by omega), if_pos (by omega), Int.natAbs_neg, Int.natAbs_natCast]
theorem artL_o {y : Int} {k : Nat} (h1 : k ≠ y.natAbs) (h2 : k ≠ y.natAbs + 1) : artL y (k : Int) = [(k : Int)] := by
  unfold artL
  rw [if_neg (by omega), artV_other (by omega) (by omega), Int.natAbs_natCast]
theorem artL_neg' (y : Int) {z : Int} (hz : z ≠ 0) (l : List Int) (h : artL y z = l) : artL y (-z) = invw l := by rw [artL_neg y hz, h]
theorem relA_pn {a : Nat} (ha : 0 < a) : RelA [(a : Int), -(a : Int)] [] := relA_of (fun z hz => by simp at hz; omega) nz_nil fun k hk => by
  show nf (artW (-(a : Int)) (artW (a : Int) [(k : Int)])) = nf [(k : Int)]
  rw [artW_one]
  by_cases h1 : k = a
  · subst h1
    rw [artL_p ha, artW_cons, artW_cons, artW_one, artL_n ha, artL_n1 ha, artL_neg' _ (by omega) _ (artL_n ha)]
    simp only [invw, List.map_cons, List.map_nil, List.reverse_cons, List.reverse_nil, List.nil_append, List.cons_append, nf, act, List.foldr, cns]
    grind
  · by_cases h2 : k = a + 1
    · subst h2
      rw [show ((a + 1 : Nat) : Int) = (a : Int) + 1 by omega, artL_p1 ha, artW_one, artL_n ha]
    · rw [artL_o (by omega) (by omega), artW_one, artL_o (by omega) (by omega)]
theorem relA_np {a : Nat} (ha : 0 < a) : RelA [-(a : Int), (a : Int)] [] := relA_of (fun z hz => by simp at hz; omega) nz_nil fun k hk => by
  show nf (artW (a : Int) (artW (-(a : Int)) [(k : Int)])) = nf [(k : Int)]
  rw [artW_one]
  by_cases h1 : k = a
  · subst h1
    rw [artL_n ha, artW_one, artL_p1 ha]
  · by_cases h2 : k = a + 1
    · subst h2
      rw [show ((a + 1 : Nat) : Int) = (a : Int) + 1 by omega, artL_n1 ha, artW_cons, artW_cons, artW_one, artL_p ha, artL_p1 ha, show -(a : Int) - 1 = -((a : Int) + 1) by omega, artL_neg' _ (by omega) _ (artL_p1 ha)]
      simp only [invw, List.map_cons, List.map_nil, List.reverse_cons, List.reverse_nil, List.nil_append, List.cons_append, nf, act, List.foldr, cns]
      grind
    · rw [artL_o (by omega) (by omega), artW_one, artL_o (by omega) (by omega)]
/-- The letters of a generator under a positive letter, by number. -/
theorem artL_q {a k : Nat} (ha : 0 < a) : artL (a : Int) (k : Int) = if k = a then [(a : Int), (a : Int) + 1, -(a : Int)] else if k = a + 1 then [(a : Int)] else [(k : Int)] := by
  by_cases h1 : k = a
  · subst h1; rw [if_pos rfl, artL_p ha]
  · rw [if_neg h1]
    by_cases h2 : k = a + 1
    · subst h2; rw [if_pos rfl, show ((a + 1 : Nat) : Int) = (a : Int) + 1 by omega, artL_p1 ha]
    · rw [if_neg h2, artL_o (by omega) (by omega)]
theorem artL_r {a k : Nat} (ha : 0 < a) : artL (-(a : Int)) (k : Int) = if k = a then [(a : Int) + 1] else if k = a + 1 then [-(a : Int) - 1, (a : Int), (a : Int) + 1] else [(k : Int)] := by
  by_cases h1 : k = a
  · subst h1; rw [if_pos rfl, artL_n ha]
  · rw [if_neg h1]
    by_cases h2 : k = a + 1
    · subst h2; rw [if_pos rfl, show ((a + 1 : Nat) : Int) = (a : Int) + 1 by omega, artL_n1 ha]
    · rw [if_neg h2, artL_o (by omega) (by omega)]
theorem relA_braid {a : Nat} (ha : 0 < a) : RelA [(a : Int), ((a + 1 : Nat) : Int), (a : Int)] [((a + 1 : Nat) : Int), (a : Int), ((a + 1 : Nat) : Int)] := relA_of (fun z hz => by simp at hz; omega) (fun z hz => by simp at hz; omega) fun k hk => by
  show nf (artW (a : Int) (artW ((a + 1 : Nat) : Int) (artW (a : Int) [(k : Int)]))) = nf (artW ((a + 1 : Nat) : Int) (artW (a : Int) (artW ((a + 1 : Nat) : Int) [(k : Int)])))
  have c1 : (a : Int) + 1 = ((a + 1 : Nat) : Int) := by omega
  have c2 : ((a + 1 : Nat) : Int) + 1 = ((a + 2 : Nat) : Int) := by omega
  have n1 : ∀ y : Int, artL y (-(a : Int)) = invw (artL y (a : Int)) := fun y => artL_neg y (by omega)
  have n2 : ∀ y : Int, artL y (-((a + 1 : Nat) : Int)) = invw (artL y ((a + 1 : Nat) : Int)) := fun y => artL_neg y (by omega)
  have h : k = a ∨ k = a + 1 ∨ k = a + 2 ∨ (k ≠ a ∧ k ≠ a + 1 ∧ k ≠ a + 2) := by omega
  rcases h with rfl | rfl | rfl | ⟨h1, h2, h3⟩
  · simp only [artW_cons, artW_nil, artL_q ha, artL_q (show 0 < k + 1 by omega), List.append_nil, if_true, c1, c2, n1, n2, if_neg (show ¬ k = k + 1 by omega), if_neg (show ¬ k = k + 1 + 1 by omega), if_neg (show ¬ k + 2 = k by omega), if_neg (show ¬ k + 2 = k + 1 by omega), if_neg (show ¬ k + 1 = k by omega), List.cons_append, List.nil_append, invw, List.map_cons, List.map_nil, List.reverse_cons, List.reverse_nil]
    first | done | (simp only [nf, act, List.foldr, cns]; grind)
  · simp only [artW_cons, artW_nil, artL_q ha, artL_q (show 0 < a + 1 by omega), List.append_nil, if_true, c1, c2, n1, n2, if_neg (show ¬ a = a + 1 by omega), if_neg (show ¬ a = a + 1 + 1 by omega), if_neg (show ¬ a + 2 = a by omega), if_neg (show ¬ a + 2 = a + 1 by omega), if_neg (show ¬ a + 1 = a by omega), List.cons_append, List.nil_append, invw, List.map_cons, List.map_nil, List.reverse_cons, List.reverse_nil]
    first | done | (simp only [nf, act, List.foldr, cns]; grind)
  · simp only [artW_cons, artW_nil, artL_q ha, artL_q (show 0 < a + 1 by omega), List.append_nil, if_true, c1, c2, n1, n2, if_neg (show ¬ a = a + 1 by omega), if_neg (show ¬ a = a + 1 + 1 by omega), if_neg (show ¬ a + 2 = a by omega), if_neg (show ¬ a + 2 = a + 1 by omega), if_neg (show ¬ a + 1 = a by omega), List.cons_append, List.nil_append, invw, List.map_cons, List.map_nil, List.reverse_cons, List.reverse_nil]
  · have o1 : artL (a : Int) (k : Int) = [(k : Int)] := artL_o (by omega) (by omega)
    have o2 : artL ((a + 1 : Nat) : Int) (k : Int) = [(k : Int)] := artL_o (by omega) (by omega)
    simp only [artW_one, o1, o2]
theorem relA_comm {a b : Nat} (ha : 0 < a) (hb : 0 < b) (h : a + 2 ≤ b ∨ b + 2 ≤ a) : RelA [(a : Int), -(b : Int)] [-(b : Int), (a : Int)] := relA_of (fun z hz => by simp at hz; omega) (fun z hz => by simp at hz; omega) fun k hk => by
  show nf (artW (-(b : Int)) (artW (a : Int) [(k : Int)])) = nf (artW (a : Int) (artW (-(b : Int)) [(k : Int)]))
  have oa : ∀ j : Nat, j ≠ a → j ≠ a + 1 → artL (a : Int) (j : Int) = [(j : Int)] := fun j h1 h2 => artL_o (by omega) (by omega)
  have ob : ∀ j : Nat, j ≠ b → j ≠ b + 1 → artL (-(b : Int)) (j : Int) = [(j : Int)] := fun j h1 h2 => artL_o (by omega) (by omega)
  have c1 : (a : Int) + 1 = ((a + 1 : Nat) : Int) := by omega
  have c2 : (b : Int) + 1 = ((b + 1 : Nat) : Int) := by omega
  have c3 : -(b : Int) - 1 = -((b + 1 : Nat) : Int) := by omega
  have n1 : ∀ y : Int, artL y (-(a : Int)) = invw (artL y (a : Int)) := fun y => artL_neg y (by omega)
  have n2 : ∀ y : Int, artL y (-((b + 1 : Nat) : Int)) = invw (artL y ((b + 1 : Nat) : Int)) := fun y => artL_neg y (by omega)
  have hh : k = a ∨ k = a + 1 ∨ k = b ∨ k = b + 1 ∨ (k ≠ a ∧ k ≠ a + 1 ∧ k ≠ b ∧ k ≠ b + 1) := by omega
  rcases hh with rfl | rfl | rfl | rfl | ⟨h1, h2, h3, h4⟩
  · simp only [artW_cons, artW_nil, List.append_nil, artL_p ha, c1, n1, ob k (by omega) (by omega), ob (k + 1) (by omega) (by omega), List.cons_append, List.nil_append, invw, List.map_cons, List.map_nil, List.reverse_cons, List.reverse_nil]
  · rw [← c1]
    simp only [artW_cons, artW_nil, List.append_nil, artL_p1 ha, ob a (by omega) (by omega)]
    rw [c1]
    simp only [ob (a + 1) (by omega) (by omega), artW_cons, artW_nil, List.append_nil]
    rw [← c1, artL_p1 ha]
  · simp only [artW_cons, artW_nil, List.append_nil, artL_n hb, oa k (by omega) (by omega)]
    rw [c2]
    simp only [oa (k + 1) (by omega) (by omega)]
  · rw [← c2]
    simp only [artW_cons, artW_nil, List.append_nil, artL_n1 hb]
    rw [c2]
    simp only [oa (b + 1) (by omega) (by omega), artW_cons, artW_nil, List.append_nil, c3, n2, oa b (by omega) (by omega), List.cons_append, List.nil_append, invw, List.map_cons, List.map_nil, List.reverse_cons, List.reverse_nil]
    rw [← c2, artL_n1 hb, show -((b : Int) + 1) = -(b : Int) - 1 by omega]
  · simp only [artW_one, oa k h1 h2, ob k h3 h4]
end Go.Proofs.Ytihpmdfeonphpaa
/- Commutative rings of my own, and finite sums. -/
namespace Go.Proofs.Ytihpmdfeonphpaa
set_option linter.unusedVariables false
set_option linter.unusedSimpArgs false

/-- A commutative ring. -/
class CR (R : Type) extends Add R, Mul R, Neg R, Zero R, One R where
  add_assoc : ∀ a b c : R, a + b + c = a + (b + c)
  add_comm : ∀ a b : R, a + b = b + a
  zero_add : ∀ a : R, 0 + a = a
  neg_add : ∀ a : R, -a + a = 0
  mul_assoc : ∀ a b c : R, a * b * c = a * (b * c)
  mul_comm : ∀ a b : R, a * b = b * a
  one_mul : ∀ a : R, 1 * a = a
  mul_add : ∀ a b c : R, a * (b + c) = a * b + a * c

instance : CR Int where
  add_assoc := Int.add_assoc
  add_comm := Int.add_comm
  zero_add := Int.zero_add
  neg_add := Int.add_left_neg
  mul_assoc := Int.mul_assoc
  mul_comm := Int.mul_comm
  one_mul := Int.one_mul
  mul_add := Int.mul_add

namespace CR
section
variable {R : Type} [CR R]
instance : Std.Associative (α := R) (· + ·) := ⟨add_assoc⟩
instance : Std.Commutative (α := R) (· + ·) := ⟨add_comm⟩
instance : Std.Associative (α := R) (· * ·) := ⟨mul_assoc⟩
instance : Std.Commutative (α := R) (· * ·) := ⟨mul_comm⟩
theorem add_zero (a : R) : a + 0 = a := by rw [add_comm, zero_add]
theorem add_neg (a : R) : a + -a = 0 := by rw [add_comm, neg_add]
theorem mul_one (a : R) : a * 1 = a := by rw [mul_comm, one_mul]
theorem add_mul (a b c : R) : (a + b) * c = a * c + b * c := by rw [mul_comm, mul_add, mul_comm c, mul_comm c]
theorem add_left_cancel {a b c : R} (h : a + b = a + c) : b = c := by
  have h2 := congrArg (fun x => -a + x) h
  simp only [← add_assoc, neg_add, zero_add] at h2
  exact h2
theorem mul_zero (a : R) : a * 0 = 0 := by
  have h : a * 0 + a * 0 = a * 0 + 0 := by rw [← mul_add, add_zero, add_zero]
  exact add_left_cancel h
theorem zero_mul (a : R) : 0 * a = 0 := by rw [mul_comm, mul_zero]
theorem eq_neg_of_add {a b : R} (h : a + b = 0) : a = -b := by
  have h2 := congrArg (fun x => x + -b) h
  simp only [add_assoc, add_neg, zero_add, add_zero] at h2
  exact h2
theorem neg_mul (a b : R) : -a * b = -(a * b) := eq_neg_of_add (by rw [← add_mul, neg_add, zero_mul])
theorem mul_neg (a b : R) : a * -b = -(a * b) := by rw [mul_comm, neg_mul, mul_comm]
theorem neg_neg (a : R) : -(-a) = a := (eq_neg_of_add (add_neg a)).symm
theorem neg_zero : -(0 : R) = 0 := by rw [← zero_add (-(0 : R)), add_neg]
theorem neg_add_rev (a b : R) : -(a + b) = -a + -b := by
  refine (eq_neg_of_add ?_).symm
  rw [show -a + -b + (a + b) = (-a + a) + (-b + b) by ac_rfl, neg_add, neg_add, zero_add]
theorem zero_of_neg {a : R} (h : -a = 0) : a = 0 := by rw [← neg_neg a, h, neg_zero]

/-! ### sums -/
def sumN : Nat → (Nat → R) → R
  | 0, _ => 0
  | n + 1, f => sumN n f + f n
theorem sumN_zero (f : Nat → R) : sumN 0 f = 0 := rfl
theorem sumN_succ (n : Nat) (f : Nat → R) : sumN (n + 1) f = sumN n f + f n := rfl
theorem sumN_congr {f g : Nat → R} : ∀ {n : Nat}, (∀ i, i < n → f i = g i) → sumN n f = sumN n g
  | 0, _ => rfl
  | n + 1, h => by rw [sumN_succ, sumN_succ, sumN_congr fun i hi => h i (by omega), h n (by omega)]
theorem sumN_add (f g : Nat → R) : ∀ n, sumN n (fun i => f i + g i) = sumN n f + sumN n g
  | 0 => by rw [sumN_zero, sumN_zero, sumN_zero, zero_add]
  | n + 1 => by rw [sumN_succ, sumN_succ, sumN_succ, sumN_add]; ac_rfl
theorem sumN_mul (c : R) (f : Nat → R) : ∀ n, sumN n (fun i => c * f i) = c * sumN n f
  | 0 => by rw [sumN_zero, sumN_zero, mul_zero]
  | n + 1 => by rw [sumN_succ, sumN_succ, sumN_mul, mul_add]
theorem sumN_neg (f : Nat → R) : ∀ n, sumN n (fun i => -f i) = -sumN n f
  | 0 => by rw [sumN_zero, sumN_zero, neg_zero]
  | n + 1 => by rw [sumN_succ, sumN_succ, sumN_neg, neg_add_rev]
theorem sumN_none {f : Nat → R} : ∀ {n : Nat}, (∀ i, i < n → f i = 0) → sumN n f = 0
  | 0, _ => rfl
  | n + 1, h => by rw [sumN_succ, sumN_none fun i hi => h i (by omega), h n (by omega), zero_add]
theorem sumN_single {f : Nat → R} : ∀ {n k : Nat}, k < n → (∀ i, i < n → i ≠ k → f i = 0) → sumN n f = f k
  | n + 1, k, hk, h => by
    rw [sumN_succ]
    by_cases e : k = n
    · subst e
      rw [sumN_none fun i hi => h i (by omega) (by omega), zero_add]
    · rw [sumN_single (by omega : k < n) fun i hi hne => h i (by omega) hne, h n (by omega) (by omega), add_zero]
theorem sumN_swap (f : Nat → Nat → R) (m : Nat) : ∀ n, sumN n (fun i => sumN m fun j => f i j) = sumN m fun j => sumN n fun i => f i j
  | 0 => by rw [sumN_zero]; exact (sumN_none fun j _ => rfl).symm
  | n + 1 => by
    rw [sumN_succ, sumN_swap f m n, ← sumN_add]
    rfl
theorem sumN_first (f : Nat → R) : ∀ n, sumN (n + 1) f = f 0 + sumN n fun i => f (i + 1)
  | 0 => by rw [sumN_succ, sumN_zero, sumN_zero, zero_add, add_zero]
  | n + 1 => by rw [sumN_succ, sumN_first f n, sumN_succ]; ac_rfl
/-- The numbers but j. -/
def skip (j b : Nat) : Nat := if b < j then b else b + 1
theorem sumN_skip (f : Nat → R) {j : Nat} : ∀ {n : Nat}, j ≤ n → sumN (n + 1) f = f j + sumN n fun b => f (skip j b)
  | 0, h => by
    obtain rfl : j = 0 := by omega
    rw [sumN_succ, sumN_zero, sumN_zero, zero_add, add_zero]
  | n + 1, h => by
    by_cases e : j = n + 1
    · subst e
      rw [sumN_succ (n + 1), add_comm]
      congr 1
      exact sumN_congr fun i hi => by rw [show skip (n + 1) i = i by unfold skip; rw [if_pos hi]]
    · rw [sumN_succ (n + 1), sumN_skip f (by omega : j ≤ n), sumN_succ n]
      rw [show skip j n = n + 1 by unfold skip; rw [if_neg (by omega)]]
      ac_rfl
/-- The sign of a number. -/
def sgR (R : Type) [CR R] (j : Nat) : R := if j % 2 = 0 then 1 else -1
theorem sgR_zero : sgR R 0 = 1 := rfl
theorem sgR_succ (j : Nat) : sgR R (j + 1) = -sgR R j := by
  unfold sgR
  by_cases h : j % 2 = 0
  · rw [if_pos h, if_neg (by omega)]
  · rw [if_neg h, if_pos (by omega), neg_neg]
theorem sgR_sq (j : Nat) : sgR R j * sgR R j = 1 := by
  unfold sgR
  split
  · exact one_mul 1
  · rw [neg_mul, mul_neg, neg_neg, one_mul]
theorem sgR_add (i j : Nat) : sgR R (i + j) = sgR R i * sgR R j := by
  induction j with
  | zero => rw [Nat.add_zero, sgR_zero, mul_one]
  | succ j ih => rw [← Nat.add_assoc, sgR_succ, sgR_succ, ih, mul_neg]
end
end CR
end Go.Proofs.Ytihpmdfeonphpaa
/- Laurent polynomials with integer coefficients: a commutative ring. -/
namespace Go.Proofs.Ytihpmdfeonphpaa
set_option linter.unusedVariables false
set_option linter.unusedSimpArgs false

/-! ### lists of terms: exponent and coefficient -/
abbrev Tm := Int × Int
def sumT : List Tm → (Int → Int → Int) → Int
  | [], _ => 0
  | (e, c) :: l, F => F e c + sumT l F
theorem sumT_append (F : Int → Int → Int) : ∀ a b : List Tm, sumT (a ++ b) F = sumT a F + sumT b F
  | [], b => by simp [sumT]
  | (e, c) :: a, b => by show F e c + sumT (a ++ b) F = _; rw [sumT_append F a b]; show _ = F e c + sumT a F + sumT b F; omega
theorem sumT_congr {F G : Int → Int → Int} : ∀ {l : List Tm}, (∀ e c, (e, c) ∈ l → F e c = G e c) → sumT l F = sumT l G
  | [], _ => rfl
  | (e, c) :: l, h => by show F e c + sumT l F = G e c + sumT l G; rw [h e c (by simp), sumT_congr fun e c hm => h e c (by simp [hm])]
theorem sumT_zero : ∀ l : List Tm, sumT l (fun _ _ => 0) = 0
  | [] => rfl
  | (e, c) :: l => by show 0 + sumT l _ = 0; rw [sumT_zero l]; rfl
theorem sumT_add (F G : Int → Int → Int) : ∀ l : List Tm, sumT l (fun e c => F e c + G e c) = sumT l F + sumT l G
  | [] => rfl
  | (e, c) :: l => by show F e c + G e c + sumT l _ = F e c + sumT l F + (G e c + sumT l G); rw [sumT_add F G l]; omega
theorem sumT_mul (a : Int) (F : Int → Int → Int) : ∀ l : List Tm, sumT l (fun e c => a * F e c) = a * sumT l F
  | [] => by simp [sumT]
  | (e, c) :: l => by show a * F e c + sumT l _ = a * (F e c + sumT l F); rw [sumT_mul a F l, Int.mul_add]
theorem sumT_swap (G : Int → Int → Int → Int → Int) (b : List Tm) : ∀ a : List Tm, sumT a (fun e c => sumT b fun f d => G e c f d) = sumT b fun f d => sumT a fun e c => G e c f d
  | [] => (sumT_zero b).symm
  | (e, c) :: a => by
    show sumT b (fun f d => G e c f d) + sumT a _ = _
    rw [sumT_swap G b a, ← sumT_add]
    rfl
theorem sumT_map (g : Tm → Tm) (F : Int → Int → Int) : ∀ l : List Tm, sumT (l.map g) F = sumT l fun e c => F (g (e, c)).1 (g (e, c)).2
  | [] => rfl
  | (e, c) :: l => by show F _ _ + sumT (l.map g) F = _; rw [sumT_map g F l]; rfl
theorem sumT_perm {F : Int → Int → Int} {a b : List Tm} (h : a.Perm b) : sumT a F = sumT b F := by
  induction h with
  | nil => rfl
  | cons x _ ih => show F x.1 x.2 + _ = F x.1 x.2 + _; rw [ih]
  | swap x y l => show F y.1 y.2 + (F x.1 x.2 + sumT l F) = F x.1 x.2 + (F y.1 y.2 + sumT l F); omega
  | trans _ _ h1 h2 => exact h1.trans h2
/-- The coefficient at an exponent. -/
def coefT (l : List Tm) (k : Int) : Int := sumT l fun e c => if e = k then c else 0
theorem coefT_append (a b : List Tm) (k : Int) : coefT (a ++ b) k = coefT a k + coefT b k := sumT_append _ a b
def scaleT (e c : Int) (l : List Tm) : List Tm := l.map fun x => (e + x.1, c * x.2)
theorem coefT_scale (e c : Int) (l : List Tm) (k : Int) : coefT (scaleT e c l) k = c * coefT l (k - e) := by
  unfold coefT scaleT
  rw [sumT_map, ← sumT_mul]
  refine sumT_congr fun f d _ => ?_
  show (if e + f = k then c * d else 0) = c * if f = k - e then d else 0
  by_cases h : e + f = k
  · rw [if_pos h, if_pos (by omega)]
  · rw [if_neg h, if_neg (by omega), Int.mul_zero]
def mulT (a b : List Tm) : List Tm := a.flatMap fun x => scaleT x.1 x.2 b
theorem mulT_cons (x : Tm) (a b : List Tm) : mulT (x :: a) b = scaleT x.1 x.2 b ++ mulT a b := rfl
theorem coefT_mul (b : List Tm) (k : Int) : ∀ a : List Tm, coefT (mulT a b) k = sumT a fun e c => c * coefT b (k - e)
  | [] => rfl
  | (e, c) :: a => by
    rw [mulT_cons, coefT_append, coefT_scale, coefT_mul b k a]
    rfl
theorem coefT_mul' (a b : List Tm) (k : Int) : coefT (mulT a b) k = sumT b fun f d => d * coefT a (k - f) := by
  rw [coefT_mul]
  have h1 : (sumT a fun e c => c * coefT b (k - e)) = sumT a fun e c => sumT b fun f d => if e + f = k then c * d else 0 := sumT_congr fun e c _ => by
    unfold coefT
    rw [← sumT_mul]
    exact sumT_congr fun f d _ => by
      by_cases h : e + f = k
      · rw [if_pos h, if_pos (by omega)]
      · rw [if_neg h, if_neg (by omega), Int.mul_zero]
  have h2 : (sumT b fun f d => d * coefT a (k - f)) = sumT b fun f d => sumT a fun e c => if e + f = k then c * d else 0 := sumT_congr fun f d _ => by
    unfold coefT
    rw [← sumT_mul]
    exact sumT_congr fun e c _ => by
      by_cases h : e + f = k
      · rw [if_pos h, if_pos (by omega), Int.mul_comm]
      · rw [if_neg h, if_neg (by omega), Int.mul_zero]
  rw [h1, h2, sumT_swap]
theorem coefT_mul_comm (a b : List Tm) (k : Int) : coefT (mulT a b) k = coefT (mulT b a) k := by rw [coefT_mul', coefT_mul]
theorem mulT_append (a b c : List Tm) : mulT (a ++ b) c = mulT a c ++ mulT b c := by unfold mulT; rw [List.flatMap_append]
theorem scaleT_append (e c : Int) (a b : List Tm) : scaleT e c (a ++ b) = scaleT e c a ++ scaleT e c b := by unfold scaleT; rw [List.map_append]
theorem scaleT_scale (e c f d : Int) (l : List Tm) : scaleT e c (scaleT f d l) = scaleT (e + f) (c * d) l := by
  unfold scaleT
  rw [List.map_map]
  refine List.map_congr_left fun x _ => ?_
  show (e + (f + x.1), c * (d * x.2)) = (e + f + x.1, c * d * x.2)
  rw [Int.add_assoc, Int.mul_assoc]
theorem mulT_scale (e c : Int) (b : List Tm) : ∀ a : List Tm, mulT (scaleT e c a) b = scaleT e c (mulT a b)
  | [] => rfl
  | (f, d) :: a => by
    show scaleT (e + f) (c * d) b ++ mulT (scaleT e c a) b = scaleT e c (scaleT f d b ++ mulT a b)
    rw [mulT_scale e c b a, scaleT_append, scaleT_scale]
theorem mulT_assoc (b c : List Tm) : ∀ a : List Tm, mulT (mulT a b) c = mulT a (mulT b c)
  | [] => rfl
  | (e, d) :: a => by
    rw [mulT_cons, mulT_append, mulT_assoc b c a, mulT_scale]
    rfl

/-! ### the ring -/
instance lpSetoid : Setoid (List Tm) where
  r a b := ∀ k, coefT a k = coefT b k
  iseqv := ⟨fun _ _ => rfl, fun h k => (h k).symm, fun h1 h2 k => (h1 k).trans (h2 k)⟩
/-- A Laurent polynomial. -/
def LP : Type := Quotient lpSetoid
namespace LP
def mk (l : List Tm) : LP := Quotient.mk _ l
theorem mk_eq {a b : List Tm} (h : ∀ k, coefT a k = coefT b k) : mk a = mk b := Quotient.sound h
/-- The coefficient at an exponent. -/
def co : LP → Int → Int := Quotient.lift coefT fun a b h => funext h
theorem co_mk (l : List Tm) (k : Int) : co (mk l) k = coefT l k := rfl
theorem ext {x y : LP} (h : ∀ k, co x k = co y k) : x = y := by
  induction x using Quotient.inductionOn
  induction y using Quotient.inductionOn
  exact Quotient.sound h
theorem mk_of (x : LP) : ∃ l, x = mk l := by
  induction x using Quotient.inductionOn
  exact ⟨_, rfl⟩
instance : Add LP := ⟨Quotient.lift₂ (fun a b => mk (a ++ b)) fun a b a' b' h1 h2 => mk_eq fun k => by rw [coefT_append, coefT_append, h1 k, h2 k]⟩
instance : Mul LP := ⟨Quotient.lift₂ (fun a b => mk (mulT a b)) fun a b a' b' h1 h2 => mk_eq fun k => by
  rw [coefT_mul', show (sumT b fun f d => d * coefT a (k - f)) = sumT b fun f d => d * coefT a' (k - f) from sumT_congr fun f d _ => by rw [h1], ← coefT_mul', coefT_mul,
    show (sumT a' fun e c => c * coefT b (k - e)) = sumT a' fun e c => c * coefT b' (k - e) from sumT_congr fun f d _ => by rw [h2], ← coefT_mul]⟩
instance : Neg LP := ⟨Quotient.lift (fun a => mk (scaleT 0 (-1) a)) fun a b h => mk_eq fun k => by rw [coefT_scale, coefT_scale, h]⟩
instance : Zero LP := ⟨mk []⟩
instance : One LP := ⟨mk [(0, 1)]⟩
theorem add_mk (a b : List Tm) : mk a + mk b = mk (a ++ b) := rfl
theorem mul_mk (a b : List Tm) : mk a * mk b = mk (mulT a b) := rfl
theorem neg_mk (a : List Tm) : -mk a = mk (scaleT 0 (-1) a) := rfl
theorem co_add (x y : LP) (k : Int) : co (x + y) k = co x k + co y k := by
  obtain ⟨a, rfl⟩ := mk_of x
  obtain ⟨b, rfl⟩ := mk_of y
  exact coefT_append a b k
theorem co_neg (x : LP) (k : Int) : co (-x) k = -co x k := by
  obtain ⟨a, rfl⟩ := mk_of x
  rw [neg_mk, co_mk, coefT_scale, Int.sub_zero, co_mk]
  omega
theorem co_zero (k : Int) : co 0 k = 0 := rfl
theorem co_one (k : Int) : co 1 k = if 0 = k then 1 else 0 := by
  show (if (0 : Int) = k then (1 : Int) else 0) + 0 = _
  omega
theorem zero_mk : (0 : LP) = mk [] := rfl
theorem one_mk : (1 : LP) = mk [(0, 1)] := rfl
instance : CR LP where
  add_assoc x y z := ext fun k => by simp only [co_add]; omega
  add_comm x y := ext fun k => by simp only [co_add]; omega
  zero_add x := ext fun k => by rw [co_add, co_zero]; omega
  neg_add x := ext fun k => by rw [co_add, co_neg, co_zero]; omega
  mul_assoc x y z := by
    obtain ⟨a, rfl⟩ := mk_of x
    obtain ⟨b, rfl⟩ := mk_of y
    obtain ⟨c, rfl⟩ := mk_of z
    rw [mul_mk, mul_mk, mul_mk, mul_mk, mulT_assoc]
  mul_comm x y := by
    obtain ⟨a, rfl⟩ := mk_of x
    obtain ⟨b, rfl⟩ := mk_of y
    exact mk_eq fun k => coefT_mul_comm a b k
  one_mul x := by
    obtain ⟨a, rfl⟩ := mk_of x
    exact mk_eq fun k => by
      rw [coefT_mul]
      show 1 * coefT a (k - 0) + 0 = _
      rw [Int.sub_zero]; omega
  mul_add x y z := by
    obtain ⟨a, rfl⟩ := mk_of x
    obtain ⟨b, rfl⟩ := mk_of y
    obtain ⟨c, rfl⟩ := mk_of z
    exact mk_eq fun k => by
      rw [coefT_append, coefT_mul, coefT_mul, coefT_mul, ← sumT_add]
      exact sumT_congr fun e c _ => by rw [coefT_append, Int.mul_add]
/-- One term. -/
def term (e c : Int) : LP := mk [(e, c)]
theorem co_term (e c k : Int) : co (term e c) k = if e = k then c else 0 := by
  show (if e = k then c else 0) + 0 = _
  omega
theorem co_term_mul (e c : Int) (x : LP) (k : Int) : co (term e c * x) k = c * co x (k - e) := by
  obtain ⟨a, rfl⟩ := mk_of x
  show coefT (mulT [(e, c)] a) k = _
  rw [coefT_mul]
  show c * coefT a (k - e) + 0 = _
  rw [co_mk]; omega
/-- The polynomial that begins at an exponent. -/
def of (lo : Int) : List Int → LP
  | [] => 0
  | c :: cs => term lo c + of (lo + 1) cs
theorem co_of : ∀ (cs : List Int) (lo k : Int), co (of lo cs) k = if lo ≤ k ∧ k < lo + cs.length then cs.getD (k - lo).toNat 0 else 0
  | [], lo, k => by
    rw [if_neg (fun h => by have := h.1; have := h.2; simp at this; omega)]
    rfl
  | c :: cs, lo, k => by
    show co (term lo c + of (lo + 1) cs) k = _
    rw [co_add, co_term, co_of cs (lo + 1) k]
    simp only [List.length_cons]
    by_cases h0 : lo = k
    · subst h0
      rw [if_pos rfl, if_neg (by omega), if_pos (by omega)]
      simp
    · rw [if_neg h0, Int.zero_add]
      by_cases h1 : lo + 1 ≤ k ∧ k < lo + 1 + cs.length
      · rw [if_pos h1, if_pos (by omega)]
        obtain ⟨m, hm⟩ : ∃ m : Nat, (k - lo).toNat = m + 1 := ⟨(k - lo).toNat - 1, by omega⟩
        rw [hm, show (k - (lo + 1)).toNat = m by omega]
        rfl
      · rw [if_neg h1, if_neg (by omega)]
theorem co_of_at {cs : List Int} {lo : Int} {i : Nat} (h : i < cs.length) : co (of lo cs) (lo + i) = cs.getD i 0 := by
  rw [co_of, if_pos (by omega), show (lo + (i : Int) - lo).toNat = i by omega]
theorem co_of_out {cs : List Int} {lo k : Int} (h : k < lo ∨ lo + cs.length ≤ k) : co (of lo cs) k = 0 := by rw [co_of, if_neg (by omega)]
theorem co_of_mul (x : LP) : ∀ (cs : List Int) (lo k : Int), co (of lo cs * x) k = CR.sumN cs.length fun i => cs.getD i 0 * co x (k - lo - i)
  | [], lo, k => by
    show co (0 * x) k = 0
    rw [CR.zero_mul]
    rfl
  | c :: cs, lo, k => by
    show co ((term lo c + of (lo + 1) cs) * x) k = _
    rw [CR.add_mul, co_add, co_term_mul, co_of_mul x cs (lo + 1) k]
    show _ = CR.sumN (cs.length + 1) _
    rw [CR.sumN_first]
    congr 1
    · show c * co x (k - lo) = c * co x (k - lo - ((0 : Nat) : Int))
      rw [show k - lo - ((0 : Nat) : Int) = k - lo by omega]
    · refine CR.sumN_congr fun i _ => ?_
      rw [show k - (lo + 1) - (i : Int) = k - lo - ((i + 1 : Nat) : Int) by omega]
      rfl
end LP
end Go.Proofs.Ytihpmdfeonphpaa
/- Laurent polynomials: values, conjugates, canonical forms. -/
namespace Go.Proofs.Ytihpmdfeonphpaa
set_option linter.unusedVariables false
set_option linter.unusedSimpArgs false

/-! ### linear forms -/
def linT (φ : Int → Int) (l : List Tm) : Int := sumT l fun e c => c * φ e
theorem sumT_filter (p : Int → Bool) (F : Int → Int → Int) : ∀ l : List Tm, sumT (l.filter fun x => p x.1) F = sumT l fun e c => if p e then F e c else 0
  | [] => rfl
  | (e, c) :: l => by
    show _ = (if p e then F e c else 0) + sumT l _
    rw [← sumT_filter p F l, List.filter_cons]
    by_cases h : p e = true
    · rw [if_pos h, if_pos h]; rfl
    · rw [if_neg h, if_neg h, Int.zero_add]
theorem linT_none (φ : Int → Int) : ∀ (n : Nat) (l : List Tm), l.length ≤ n → (∀ k, coefT l k = 0) → linT φ l = 0
  | _, [], _, _ => rfl
  | 0, x :: l, h, _ => absurd h (by simp)
  | n + 1, (e0, c0) :: l, h, h0 => by
    have h1 : linT φ ((e0, c0) :: l) = (sumT ((e0, c0) :: l) fun e c => if e = e0 then c * φ e else 0) + linT φ (((e0, c0) :: l).filter fun x => !(x.1 == e0)) := by
      unfold linT
      rw [sumT_filter (fun e => !(e == e0)), ← sumT_add]
      refine sumT_congr fun e c _ => ?_
      by_cases he : e = e0
      · subst he; simp
      · have : (e == e0) = false := by simpa using he
        rw [if_neg he, this, Int.zero_add]; rfl
    have h2 : (sumT ((e0, c0) :: l) fun e c => if e = e0 then c * φ e else 0) = φ e0 * coefT ((e0, c0) :: l) e0 := by
      unfold coefT
      rw [← sumT_mul]
      refine sumT_congr fun e c _ => ?_
      by_cases he : e = e0
      · subst he; rw [if_pos rfl, if_pos rfl, Int.mul_comm]
      · rw [if_neg he, if_neg he, Int.mul_zero]
    have h3 : (((e0, c0) :: l).filter fun x => !(x.1 == e0)).length ≤ n := by
      rw [List.filter_cons_of_neg (by simp)]
      rw [List.length_cons] at h
      exact Nat.le_trans (List.length_filter_le _ l) (by omega)
    have h4 : ∀ k, coefT (((e0, c0) :: l).filter fun x => !(x.1 == e0)) k = 0 := fun k => by
      unfold coefT
      rw [sumT_filter (fun e => !(e == e0))]
      by_cases hk : k = e0
      · refine (sumT_congr (G := fun _ _ => 0) fun e c _ => ?_).trans (sumT_zero _)
        grind
      · refine (sumT_congr (G := fun e c => if e = k then c else 0) fun e c _ => ?_).trans (h0 k)
        grind
    rw [h1, h2, h0, Int.mul_zero, linT_none φ n _ h3 h4]
    rfl
theorem linT_append (φ : Int → Int) (a b : List Tm) : linT φ (a ++ b) = linT φ a + linT φ b := sumT_append _ a b
theorem linT_scale (φ : Int → Int) (hφ : ∀ e f, φ (e + f) = φ e * φ f) (e c : Int) (l : List Tm) : linT φ (scaleT e c l) = c * φ e * linT φ l := by
  unfold linT scaleT
  rw [sumT_map, ← sumT_mul]
  refine sumT_congr fun f d _ => ?_
  show c * d * φ (e + f) = c * φ e * (d * φ f)
  rw [hφ]; grind
theorem linT_neg (φ : Int → Int) (l : List Tm) : linT φ (scaleT 0 (-1) l) = -linT φ l := by
  unfold linT scaleT
  rw [sumT_map, show -(sumT l fun e c => c * φ e) = (-1) * sumT l fun e c => c * φ e by omega, ← sumT_mul]
  refine sumT_congr fun f d _ => ?_
  show -1 * d * φ (0 + f) = -1 * (d * φ f)
  rw [Int.zero_add, Int.mul_assoc]
theorem linT_mul (φ : Int → Int) (hφ : ∀ e f, φ (e + f) = φ e * φ f) (b : List Tm) : ∀ a : List Tm, linT φ (mulT a b) = linT φ a * linT φ b
  | [] => by show 0 = 0 * _; rw [Int.zero_mul]
  | (e, c) :: a => by
    rw [mulT_cons, linT_append, linT_scale φ hφ, linT_mul φ hφ b a]
    show c * φ e * linT φ b + linT φ a * linT φ b = (c * φ e + linT φ a) * linT φ b
    rw [Int.add_mul]
theorem linT_congr (φ : Int → Int) {a b : List Tm} (h : ∀ k, coefT a k = coefT b k) : linT φ a = linT φ b := by
  have := linT_none φ _ (a ++ scaleT 0 (-1) b) (Nat.le_refl _) fun k => by rw [coefT_append, coefT_scale, Int.sub_zero, h]; omega
  rw [linT_append, linT_neg] at this
  omega
namespace LP
def lin (φ : Int → Int) : LP → Int := Quotient.lift (linT φ) fun a b h => linT_congr φ h
theorem lin_add (φ : Int → Int) (x y : LP) : lin φ (x + y) = lin φ x + lin φ y := by
  obtain ⟨a, rfl⟩ := mk_of x
  obtain ⟨b, rfl⟩ := mk_of y
  exact linT_append φ a b
theorem lin_mul {φ : Int → Int} (hφ : ∀ e f, φ (e + f) = φ e * φ f) (x y : LP) : lin φ (x * y) = lin φ x * lin φ y := by
  obtain ⟨a, rfl⟩ := mk_of x
  obtain ⟨b, rfl⟩ := mk_of y
  exact linT_mul φ hφ b a
theorem lin_term (φ : Int → Int) (e c : Int) : lin φ (term e c) = c * φ e := by
  show c * φ e + 0 = _
  omega
theorem lin_of (φ : Int → Int) : ∀ (cs : List Int) (lo : Int), lin φ (of lo cs) = CR.sumN cs.length fun i => cs.getD i 0 * φ (lo + i)
  | [], lo => rfl
  | c :: cs, lo => by
    show lin φ (term lo c + of (lo + 1) cs) = CR.sumN (cs.length + 1) _
    rw [lin_add, lin_term, lin_of φ cs (lo + 1), CR.sumN_first]
    congr 1
    · show c * φ lo = c * φ (lo + ((0 : Nat) : Int))
      rw [show lo + ((0 : Nat) : Int) = lo by omega]
    · refine CR.sumN_congr fun i _ => ?_
      rw [show lo + 1 + (i : Int) = lo + ((i + 1 : Nat) : Int) by omega]
      rfl
/-- The powers of 1, or of -1. -/
def pw (neg : Bool) (e : Int) : Int := if neg = true ∧ e % 2 ≠ 0 then -1 else 1
theorem pw_add (neg : Bool) (e f : Int) : pw neg (e + f) = pw neg e * pw neg f := by
  unfold pw
  cases neg
  · simp
  · have h1 : e % 2 = 0 ∨ e % 2 = 1 := by omega
    have h2 : f % 2 = 0 ∨ f % 2 = 1 := by omega
    have n0 : ∀ {e : Int}, e % 2 = 0 → ¬(true = true ∧ e % 2 ≠ 0) := fun h h2 => h2.2 h
    have n1 : ∀ {e : Int}, e % 2 = 1 → (true = true ∧ e % 2 ≠ 0) := fun h => ⟨rfl, by omega⟩
    rcases h1 with h1 | h1 <;> rcases h2 with h2 | h2
    · rw [if_neg (n0 (by omega)), if_neg (n0 h1), if_neg (n0 h2)]; rfl
    · rw [if_pos (n1 (by omega)), if_neg (n0 h1), if_pos (n1 h2)]; rfl
    · rw [if_pos (n1 (by omega)), if_pos (n1 h1), if_neg (n0 h2)]; rfl
    · rw [if_neg (n0 (by omega)), if_pos (n1 h1), if_pos (n1 h2)]; rfl
/-- The value at 1 or -1. -/
def ev (neg : Bool) : LP → Int := lin (pw neg)
theorem ev_mul (neg : Bool) (x y : LP) : ev neg (x * y) = ev neg x * ev neg y := lin_mul (pw_add neg) x y
theorem ev_add (neg : Bool) (x y : LP) : ev neg (x + y) = ev neg x + ev neg y := lin_add _ x y

/-! ### conjugates -/
def conjT (l : List Tm) : List Tm := l.map fun x => (-x.1, x.2)
theorem coefT_conj (l : List Tm) (k : Int) : coefT (conjT l) k = coefT l (-k) := by
  unfold coefT conjT
  rw [sumT_map]
  refine sumT_congr fun e c _ => ?_
  show (if -e = k then c else 0) = if e = -k then c else 0
  by_cases h : -e = k
  · rw [if_pos h, if_pos (by omega)]
  · rw [if_neg h, if_neg (by omega)]
def conj : LP → LP := Quotient.lift (fun a => mk (conjT a)) fun a b h => mk_eq fun k => by rw [coefT_conj, coefT_conj, h]
theorem co_conj (x : LP) (k : Int) : co (conj x) k = co x (-k) := by
  obtain ⟨a, rfl⟩ := mk_of x
  exact coefT_conj a k
theorem conj_conj (x : LP) : conj (conj x) = x := ext fun k => by rw [co_conj, co_conj, Int.neg_neg]
theorem conj_add (x y : LP) : conj (x + y) = conj x + conj y := ext fun k => by rw [co_conj, co_add, co_add, co_conj, co_conj]
theorem conjT_mul (b : List Tm) : ∀ a : List Tm, conjT (mulT a b) = mulT (conjT a) (conjT b)
  | [] => rfl
  | (e, c) :: a => by
    rw [mulT_cons]
    show List.map _ (scaleT e c b ++ mulT a b) = scaleT (-e) c (conjT b) ++ mulT (conjT a) (conjT b)
    rw [List.map_append, ← conjT_mul b a]
    congr 1
    unfold scaleT conjT
    rw [List.map_map, List.map_map]
    refine List.map_congr_left fun x _ => ?_
    show (-(e + x.1), c * x.2) = (-e + -x.1, c * x.2)
    rw [Int.neg_add]
theorem conj_mul (x y : LP) : conj (x * y) = conj x * conj y := by
  obtain ⟨a, rfl⟩ := mk_of x
  obtain ⟨b, rfl⟩ := mk_of y
  show mk _ = mk _
  rw [conjT_mul]
theorem conj_of (cs : List Int) (lo : Int) : conj (of lo cs) = of (-(lo + cs.length - 1)) cs.reverse := ext fun k => by
  rw [co_conj, co_of, co_of, List.length_reverse]
  by_cases h : lo ≤ -k ∧ -k < lo + cs.length
  · rw [if_pos h, if_pos (by omega)]
    have h1 : (-k - lo).toNat < cs.length := by omega
    have h2 : (k - -(lo + cs.length - 1)).toNat < cs.length := by omega
    rw [List.getD_eq_getElem?_getD, List.getD_eq_getElem?_getD, List.getElem?_reverse h2]
    congr 2
    omega
  · rw [if_neg h, if_neg (by omega)]

/-! ### canonical forms -/
def Cano (lo : Int) (cs : List Int) : Prop := (cs = [] ∧ lo = 0) ∨ (cs ≠ [] ∧ cs.getD 0 0 ≠ 0 ∧ cs.getD (cs.length - 1) 0 ≠ 0)
theorem Cano.low {lo : Int} {cs : List Int} (h : Cano lo cs) (hn : cs ≠ []) : co (of lo cs) lo ≠ 0 := by
  rcases h with h | ⟨_, h, _⟩
  · exact absurd h.1 hn
  · have hl : 0 < cs.length := List.length_pos_iff.2 hn
    have := co_of_at (lo := lo) hl
    rw [show lo + ((0 : Nat) : Int) = lo by omega] at this
    rw [this]; exact h
theorem Cano.high {lo : Int} {cs : List Int} (h : Cano lo cs) (hn : cs ≠ []) : co (of lo cs) (lo + (cs.length - 1 : Nat)) ≠ 0 := by
  rcases h with h | ⟨_, _, h⟩
  · exact absurd h.1 hn
  · have hl : 0 < cs.length := List.length_pos_iff.2 hn
    rw [co_of_at (lo := lo) (show cs.length - 1 < cs.length by omega)]; exact h
theorem co_of_some {lo k : Int} {cs : List Int} (h : co (of lo cs) k ≠ 0) : lo ≤ k ∧ k < lo + cs.length := by
  rw [co_of] at h
  by_cases hh : lo ≤ k ∧ k < lo + cs.length
  · exact hh
  · rw [if_neg hh] at h; exact absurd rfl h
theorem Cano.unique {lo lo' : Int} {cs cs' : List Int} (h : Cano lo cs) (h' : Cano lo' cs') (he : of lo cs = of lo' cs') : lo = lo' ∧ cs = cs' := by
  by_cases hn : cs = []
  · by_cases hn' : cs' = []
    · rcases h with h | h
      · rcases h' with h' | h'
        · exact ⟨by rw [h.2, h'.2], by rw [hn, hn']⟩
        · exact absurd hn' h'.1
      · exact absurd hn h.1
    · have := h'.low hn'
      rw [← he, hn] at this
      exact absurd rfl this
  · by_cases hn' : cs' = []
    · have := h.low hn
      rw [he, hn'] at this
      exact absurd rfl this
    · have a1 := h.low hn
      have a2 := h.high hn
      have b1 := h'.low hn'
      have b2 := h'.high hn'
      rw [he] at a1 a2
      rw [← he] at b1 b2
      have a1 := co_of_some a1
      have a2 := co_of_some a2
      have b1 := co_of_some b1
      have b2 := co_of_some b2
      have hl : 0 < cs.length := List.length_pos_iff.2 hn
      have hl' : 0 < cs'.length := List.length_pos_iff.2 hn'
      have hlo : lo = lo' := by omega
      have hlen : cs.length = cs'.length := by omega
      subst hlo
      refine ⟨rfl, List.ext_getElem hlen fun i h1 h2 => ?_⟩
      have e1 := co_of_at (lo := lo) h1
      have e2 := co_of_at (lo := lo) h2
      rw [he] at e1
      rw [e1] at e2
      simpa [List.getD, List.getElem?_eq_getElem h1, List.getElem?_eq_getElem h2] using e2
theorem of_snoc0 (cs : List Int) (lo : Int) : of lo (cs ++ [0]) = of lo cs := ext fun k => by
  rw [co_of, co_of]
  have hl : (cs ++ [0]).length = cs.length + 1 := by simp
  by_cases h : lo ≤ k ∧ k < lo + cs.length
  · rw [if_pos h, if_pos (by omega)]
    have h1 : (k - lo).toNat < cs.length := by omega
    rw [List.getD_eq_getElem?_getD, List.getElem?_append_left h1, ← List.getD_eq_getElem?_getD]
  · rw [if_neg h]
    by_cases h2 : lo ≤ k ∧ k < lo + (cs ++ [0]).length
    · rw [if_pos h2]
      have h3 : (k - lo).toNat = cs.length := by omega
      rw [h3, List.getD_eq_getElem?_getD, List.getElem?_append_right (Nat.le_refl _), Nat.sub_self]
      rfl
    · rw [if_neg h2]
theorem of_cons0 (cs : List Int) (lo : Int) : of lo (0 :: cs) = of (lo + 1) cs := ext fun k => by
  show co (term lo 0 + of (lo + 1) cs) k = _
  rw [co_add, co_term]
  split <;> omega
theorem cano_exists : ∀ (n : Nat) (cs : List Int) (lo : Int), cs.length ≤ n → ∃ lo' cs', Cano lo' cs' ∧ of lo' cs' = of lo cs
  | _, [], lo, _ => ⟨0, [], .inl ⟨rfl, rfl⟩, rfl⟩
  | 0, c :: cs, lo, h => absurd h (by simp)
  | n + 1, c :: cs, lo, h => by
    by_cases hc : c = 0
    · subst hc
      rw [of_cons0]
      exact cano_exists n cs (lo + 1) (by simpa using h)
    · by_cases hl : (c :: cs).getD cs.length 0 = 0
      · have hcs : cs ≠ [] := by
          rintro rfl
          exact hc hl
        obtain ⟨ds, hds⟩ : ∃ ds, c :: cs = ds ++ [0] := by
          refine ⟨(c :: cs).dropLast, ?_⟩
          have h1 := List.dropLast_concat_getLast (l := c :: cs) (by simp)
          have h2 : (c :: cs).getLast (by simp) = 0 := by
            rw [List.getLast_eq_getElem]
            have h3 : (c :: cs).length - 1 < (c :: cs).length := by simp
            have h4 : (c :: cs).getD ((c :: cs).length - 1) 0 = 0 := by simpa using hl
            simpa [List.getD, List.getElem?_eq_getElem h3] using h4
          rw [h2] at h1
          exact h1.symm
        rw [hds, of_snoc0]
        have := congrArg List.length hds
        simp at this h
        exact cano_exists n ds lo (by omega)
      · exact ⟨lo, c :: cs, .inr ⟨by simp, hc, by simpa using hl⟩, rfl⟩
theorem sumT_out (k : Int) : ∀ l : List Tm, (∀ x ∈ l, x.1 ≠ k) → coefT l k = 0
  | [], _ => rfl
  | (e, c) :: l, h => by
    show (if e = k then c else 0) + coefT l k = 0
    rw [if_neg (h (e, c) (by simp)), sumT_out k l fun x hx => h x (by simp [hx])]; rfl
theorem bounded (l : List Tm) : ∃ N : Nat, ∀ x ∈ l, x.1.natAbs ≤ N := by
  induction l with
  | nil => exact ⟨0, fun x h => (by cases h)⟩
  | cons x l ih =>
    obtain ⟨N, h⟩ := ih
    refine ⟨max N x.1.natAbs, fun y hy => ?_⟩
    rcases List.mem_cons.1 hy with rfl | hy
    · exact Nat.le_max_right _ _
    · exact Nat.le_trans (h y hy) (Nat.le_max_left _ _)
/-- The coefficients of n exponents from lo on. -/
def win (x : LP) (lo : Int) (n : Nat) : List Int := (List.range n).map fun i : Nat => co x (lo + (i : Int))
theorem win_length (x : LP) (lo : Int) (n : Nat) : (win x lo n).length = n := by simp [win]
theorem win_getD (x : LP) (lo : Int) {n i : Nat} (h : i < n) : (win x lo n).getD i 0 = co x (lo + i) := by simp [win, List.getD, h]
theorem of_win {x : LP} {lo : Int} {n : Nat} (h : ∀ k, co x k ≠ 0 → lo ≤ k ∧ k < lo + n) : of lo (win x lo n) = x := ext fun k => by
  rw [co_of, win_length]
  by_cases hk : lo ≤ k ∧ k < lo + n
  · rw [if_pos hk, win_getD x lo (by omega)]
    rw [show lo + ((k - lo).toNat : Int) = k by omega]
  · rw [if_neg hk]
    by_cases h0 : co x k = 0
    · exact h0.symm
    · exact absurd (h k h0) hk
theorem canon_exists (x : LP) : ∃ p : Int × List Int, Cano p.1 p.2 ∧ of p.1 p.2 = x := by
  obtain ⟨l, rfl⟩ := mk_of x
  obtain ⟨N, hN⟩ := bounded l
  have h : ∀ k, co (mk l) k ≠ 0 → -(N : Int) ≤ k ∧ k < -(N : Int) + (2 * N + 1 : Nat) := fun k hk => by
    by_cases hh : -(N : Int) ≤ k ∧ k < -(N : Int) + (2 * N + 1 : Nat)
    · exact hh
    · refine absurd (sumT_out k l fun x hx e => ?_) hk
      have := hN x hx
      omega
  obtain ⟨lo', cs', h1, h2⟩ := cano_exists _ (win (mk l) (-(N : Int)) (2 * N + 1)) (-(N : Int)) (Nat.le_refl _)
  exact ⟨(lo', cs'), h1, h2.trans (of_win h)⟩
noncomputable def canon (x : LP) : Int × List Int := Classical.choose (canon_exists x)
theorem canon_cano (x : LP) : Cano (canon x).1 (canon x).2 := (Classical.choose_spec (canon_exists x)).1
theorem of_canon (x : LP) : of (canon x).1 (canon x).2 = x := (Classical.choose_spec (canon_exists x)).2
theorem canon_eq {lo : Int} {cs : List Int} {x : LP} (h : Cano lo cs) (he : of lo cs = x) : canon x = (lo, cs) := by
  obtain ⟨h1, h2⟩ := (canon_cano x).unique h ((of_canon x).trans he.symm)
  exact Prod.ext h1 h2
theorem canon_of {lo : Int} {cs : List Int} (h : Cano lo cs) : canon (of lo cs) = (lo, cs) := canon_eq h rfl
/-- A polynomial whose lowest and highest exponents are known. -/
theorem canon_win {x : LP} {lo : Int} {n : Nat} (h : ∀ k, co x k ≠ 0 → lo ≤ k ∧ k < lo + (n + 1 : Nat)) (h0 : co x lo ≠ 0) (h1 : co x (lo + n) ≠ 0) : canon x = (lo, win x lo (n + 1)) := by
  refine canon_eq (.inr ⟨fun e => by have := win_length x lo (n + 1); rw [e] at this; simp at this, ?_, ?_⟩) (of_win h)
  · rw [win_getD x lo (by omega), show lo + ((0 : Nat) : Int) = lo by omega]; exact h0
  · rw [win_length, Nat.add_sub_cancel, win_getD x lo (by omega)]; exact h1
theorem canon_zero : canon 0 = (0, []) := canon_eq (.inl ⟨rfl, rfl⟩) rfl
end LP
end Go.Proofs.Ytihpmdfeonphpaa
/- Laurent polynomials: which are right, what fits; division. -/
namespace Go.Proofs.Ytihpmdfeonphpaa
set_option linter.unusedVariables false
set_option linter.unusedSimpArgs false
namespace LP

def okC (c : Int) : Bool := decide (c ≤ 100000000 ∧ -100000000 ≤ c)
/-- The error of a polynomial. -/
def pfl (lo : Int) (cs : List Int) : Int :=
  if 200 < cs.length ∨ 1000 < lo ∨ lo < -1000 then 2
  else if (cs.length = 0 ∧ lo ≠ 0) ∨ (0 < cs.length ∧ (cs.getD 0 0 = 0 ∨ cs.getD (cs.length - 1) 0 = 0)) then 3
  else if cs.all okC then 0 else 1
theorem pfl_cases (lo : Int) (cs : List Int) : pfl lo cs = 0 ∨ pfl lo cs = 1 ∨ pfl lo cs = 2 ∨ pfl lo cs = 3 := by unfold pfl; grind
theorem pfl_zero {lo : Int} {cs : List Int} (h : pfl lo cs = 0) : cs.length ≤ 200 ∧ -1000 ≤ lo ∧ lo ≤ 1000 ∧ Cano lo cs ∧ ∀ c ∈ cs, c.natAbs ≤ 100000000 := by
  unfold pfl at h
  by_cases h1 : 200 < cs.length ∨ 1000 < lo ∨ lo < -1000
  · rw [if_pos h1] at h; cases h
  · rw [if_neg h1] at h
    by_cases h2 : (cs.length = 0 ∧ lo ≠ 0) ∨ (0 < cs.length ∧ (cs.getD 0 0 = 0 ∨ cs.getD (cs.length - 1) 0 = 0))
    · rw [if_pos h2] at h; cases h
    · rw [if_neg h2] at h
      by_cases h3 : cs.all okC = true
      · refine ⟨by omega, by omega, by omega, ?_, fun c hc => ?_⟩
        · by_cases hn : cs = []
          · refine .inl ⟨hn, ?_⟩
            subst hn
            by_cases h0 : lo = 0
            · exact h0
            · exact absurd (.inl ⟨rfl, h0⟩) h2
          · have hl : 0 < cs.length := List.length_pos_iff.2 hn
            exact .inr ⟨hn, fun e => h2 (.inr ⟨hl, .inl e⟩), fun e => h2 (.inr ⟨hl, .inr e⟩)⟩
        · have := List.all_eq_true.1 h3 c hc
          unfold okC at this
          have := of_decide_eq_true this
          omega
      · rw [if_neg h3] at h; cases h
theorem pfl_ok {lo : Int} {cs : List Int} (h1 : cs.length ≤ 200) (h2 : -1000 ≤ lo) (h3 : lo ≤ 1000) (h4 : Cano lo cs) (h5 : ∀ c ∈ cs, c.natAbs ≤ 100000000) : pfl lo cs = 0 := by
  unfold pfl
  rw [if_neg (by omega), if_neg, if_pos]
  · rw [List.all_eq_true]
    intro c hc
    have := h5 c hc
    exact decide_eq_true (by omega)
  · rintro (⟨h, h0⟩ | ⟨h, h0⟩)
    · rcases h4 with h4 | h4
      · exact h0 h4.2
      · exact h4.1 (List.eq_nil_of_length_eq_zero h)
    · rcases h4 with h4 | h4
      · rw [h4.1] at h; exact absurd h (by simp)
      · rcases h0 with h0 | h0
        · exact h4.2.1 h0
        · exact h4.2.2 h0
theorem getD_mem' {cs : List Int} {i : Nat} (h : i < cs.length) : cs.getD i 0 ∈ cs := by
  rw [show cs.getD i 0 = cs[i] by simp [List.getD, List.getElem?_eq_getElem h]]
  exact List.getElem_mem _
theorem co_of_le {lo : Int} {cs : List Int} {B : Nat} (h : ∀ c ∈ cs, c.natAbs ≤ B) (k : Int) : (co (of lo cs) k).natAbs ≤ B := by
  rw [co_of]
  split
  · next hk => exact h _ (getD_mem' (by omega))
  · simp

/-- An error, the lowest exponent, the coefficients. -/
abbrev PR := Int × Int × List Int
/-- What comes of a polynomial: itself, or the error that it is too large. -/
noncomputable def fit (x : LP) : PR := if pfl (canon x).1 (canon x).2 = 0 then (0, (canon x).1, (canon x).2) else (2, 0, [])
def one1 (la : Int) (A : List Int) (r : PR) : PR := if pfl la A = 0 then r else (pfl la A, 0, [])
def two2 (la : Int) (A : List Int) (lb : Int) (B : List Int) (r : PR) : PR := if pfl la A = 0 then (if pfl lb B = 0 then r else (pfl lb B, 0, [])) else (pfl la A, 0, [])
noncomputable def addR (la : Int) (A : List Int) (lb : Int) (B : List Int) : PR := two2 la A lb B (fit (of la A + of lb B))
noncomputable def subR (la : Int) (A : List Int) (lb : Int) (B : List Int) : PR := two2 la A lb B (fit (of la A + -of lb B))
noncomputable def mulR (la : Int) (A : List Int) (lb : Int) (B : List Int) : PR := two2 la A lb B (fit (of la A * of lb B))
noncomputable def conjR (la : Int) (A : List Int) : PR := one1 la A (fit (conj (of la A)))
/-- The sign of the last coefficient. -/
def sgL (A : List Int) : Int := if A.getD (A.length - 1) 0 < 0 then -1 else 1
def normC (A : List Int) : List Int := A.map fun c => sgL A * c
def normR (la : Int) (A : List Int) : PR := one1 la A (0, 0, normC A)
def evalE (la : Int) (A : List Int) (x : Int) : Int := if pfl la A = 0 then (if x = 1 ∨ x = -1 then 0 else 1) else pfl la A
def evalV (la : Int) (A : List Int) (x : Int) : Int := if evalE la A x = 0 then ev (decide (x = -1)) (of la A) else 0
/-- Division from the highest exponent down: n steps, the next one at e; hb the highest exponent of b, lead its coefficient. -/
def divS (b : LP) (hb lead : Int) : Nat → Int → LP → LP → Int × LP × LP
  | 0, _, r, q => (0, r, q)
  | n + 1, e, r, q => if 100000000 < (co r (e + hb) * lead).natAbs then (2, 0, 0) else divS b hb lead n (e - 1) (r + -(term e (co r (e + hb) * lead) * b)) (q + term e (co r (e + hb) * lead))
/-- The quotient of right polynomials. -/
noncomputable def overR (la : Int) (A : List Int) (lb : Int) (B : List Int) : PR :=
  if B.length = 0 then (6, 0, [])
  else if B.getD (B.length - 1) 0 * B.getD (B.length - 1) 0 ≠ 1 then (3, 0, [])
  else
    let d := divS (of lb B) (lb + B.length - 1) (B.getD (B.length - 1) 0) (A.length + 1 - B.length) (la + A.length - B.length - lb) (of la A) 0
    if d.1 ≠ 0 then (d.1, 0, []) else if (canon d.2.1).2.length ≠ 0 then (7, 0, []) else fit d.2.2
noncomputable def divR (la : Int) (A : List Int) (lb : Int) (B : List Int) : PR := two2 la A lb B (overR la A lb B)

/-! ### bounds -/
structure Sm (x : LP) (l h : Int) (B : Nat) : Prop where
  supp : ∀ k, co x k ≠ 0 → l ≤ k ∧ k ≤ h
  le : ∀ k, (co x k).natAbs ≤ B
theorem Sm.of_ {lo : Int} {cs : List Int} {n B : Nat} (hn : cs.length ≤ n) (h : ∀ c ∈ cs, c.natAbs ≤ B) : Sm (of lo cs) lo (lo + n - 1) B :=
  ⟨fun k hk => by have := co_of_some hk; omega, fun k => co_of_le h k⟩
theorem Sm.add {x y : LP} {l h l' h' : Int} {B C : Nat} (hx : Sm x l h B) (hy : Sm y l' h' C) : Sm (x + y) (min l l') (max h h') (B + C) :=
  ⟨fun k hk => by
    rw [co_add] at hk
    by_cases h1 : co x k = 0
    · by_cases h2 : co y k = 0
      · rw [h1, h2] at hk; exact absurd rfl hk
      · have := hy.supp k h2; omega
    · have := hx.supp k h1; omega,
  fun k => by rw [co_add]; have := hx.le k; have := hy.le k; omega⟩
theorem Sm.neg {x : LP} {l h : Int} {B : Nat} (hx : Sm x l h B) : Sm (-x) l h B :=
  ⟨fun k hk => hx.supp k (fun e => hk (by rw [co_neg, e]; rfl)), fun k => by rw [co_neg]; have := hx.le k; omega⟩
theorem Sm.mono {x : LP} {l h l' h' : Int} {B C : Nat} (hx : Sm x l h B) (h1 : l' ≤ l) (h2 : h ≤ h') (h3 : B ≤ C) : Sm x l' h' C :=
  ⟨fun k hk => by have := hx.supp k hk; omega, fun k => Nat.le_trans (hx.le k) h3⟩
theorem natAbs_sumN {f : Nat → Int} {D : Nat} : ∀ {n : Nat}, (∀ i, i < n → (f i).natAbs ≤ D) → (CR.sumN n f).natAbs ≤ n * D
  | 0, _ => by simp [CR.sumN_zero]
  | n + 1, h => by
    rw [CR.sumN_succ]
    have h1 := natAbs_sumN (n := n) fun i hi => h i (by omega)
    have h2 := h n (by omega)
    have h3 := Int.natAbs_add_le (CR.sumN n f) (f n)
    rw [Nat.add_one_mul]
    exact Nat.le_trans h3 (by omega)
theorem Sm.mul_of {lo : Int} {cs : List Int} {n B C : Nat} {y : LP} {l h : Int} (hn : cs.length ≤ n) (hc : ∀ c ∈ cs, c.natAbs ≤ B) (hy : Sm y l h C) : Sm (of lo cs * y) (lo + l) (lo + n - 1 + h) (n * (B * C)) :=
  ⟨fun k hk => by
    rw [co_of_mul] at hk
    by_cases hh : lo + l ≤ k ∧ k ≤ lo + n - 1 + h
    · exact hh
    · refine absurd (CR.sumN_none fun i hi => ?_) hk
      have : co y (k - lo - i) = 0 := by
        by_cases h0 : co y (k - lo - i) = 0
        · exact h0
        · have := hy.supp _ h0; omega
      rw [this, Int.mul_zero],
  fun k => by
    rw [co_of_mul]
    refine Nat.le_trans (natAbs_sumN (D := B * C) fun i hi => ?_) (Nat.mul_le_mul_right _ hn)
    rw [Int.natAbs_mul]
    exact Nat.mul_le_mul (hc _ (getD_mem' hi)) (hy.le _)⟩
theorem Sm.pfl {x : LP} {l h : Int} {B : Nat} (hx : Sm x l h B) (h1 : h - l < 200) (h2 : -1000 ≤ l) (h3 : h ≤ 1000) (h4 : B ≤ 100000000) : pfl (canon x).1 (canon x).2 = 0 := by
  have hc := canon_cano x
  have ho := of_canon x
  by_cases hn : (canon x).2 = []
  · rcases hc with hc | hc
    · rw [hc.2, hn]; rfl
    · exact absurd hn hc.1
  · have e1 := hc.low hn
    have e2 := hc.high hn
    rw [ho] at e1 e2
    have s1 := hx.supp _ e1
    have s2 := hx.supp _ e2
    have hl : 0 < (canon x).2.length := List.length_pos_iff.2 hn
    refine pfl_ok (by omega) (by omega) (by omega) hc fun c hcm => ?_
    obtain ⟨i, hi, rfl⟩ := List.getElem_of_mem hcm
    have e3 := co_of_at (lo := (canon x).1) hi
    rw [ho] at e3
    have e4 : (canon x).2.getD i 0 = (canon x).2[i] := by simp [List.getD, List.getElem?_eq_getElem hi]
    rw [← e4, ← e3]
    exact Nat.le_trans (hx.le _) h4
theorem fit_ok {x : LP} (h : LP.pfl (canon x).1 (canon x).2 = 0) : fit x = (0, (canon x).1, (canon x).2) := by unfold fit; rw [if_pos h]
theorem canon_sm {x : LP} {l h : Int} {B : Nat} (hx : Sm x l h B) (h1 : 0 ≤ h - l + 1) : (canon x).2.length ≤ (h - l + 1).toNat ∧ ∀ c ∈ (canon x).2, c.natAbs ≤ B := by
  have hc := canon_cano x
  have ho := of_canon x
  by_cases hn : (canon x).2 = []
  · rw [hn]; exact ⟨by simp, fun c h => (by cases h)⟩
  · have e1 := hc.low hn
    have e2 := hc.high hn
    rw [ho] at e1 e2
    have s1 := hx.supp _ e1
    have s2 := hx.supp _ e2
    have hl : 0 < (canon x).2.length := List.length_pos_iff.2 hn
    refine ⟨by omega, fun c hcm => ?_⟩
    obtain ⟨i, hi, rfl⟩ := List.getElem_of_mem hcm
    have e3 := co_of_at (lo := (canon x).1) hi
    rw [ho] at e3
    have e4 : (canon x).2.getD i 0 = (canon x).2[i] := by simp [List.getD, List.getElem?_eq_getElem hi]
    rw [← e4, ← e3]
    exact hx.le _

/-! ### units -/
theorem sgL_sq (A : List Int) : sgL A * sgL A = 1 := by unfold sgL; split <;> rfl
theorem sgL_cases (A : List Int) : sgL A = 1 ∨ sgL A = -1 := by unfold sgL; split <;> simp
theorem of_smul (s : Int) : ∀ (cs : List Int) (lo e : Int), of (lo + e) (cs.map fun c => s * c) = of lo cs * term e s
  | [], lo, e => by show (0 : LP) = 0 * _; rw [CR.zero_mul]
  | c :: cs, lo, e => by
    show term (lo + e) (s * c) + of (lo + e + 1) (cs.map fun c => s * c) = (term lo c + of (lo + 1) cs) * term e s
    rw [CR.add_mul, ← of_smul s cs (lo + 1) e, show lo + e + 1 = lo + 1 + e by omega]
    congr 1
    refine ext fun k => ?_
    rw [co_term_mul, co_term, co_term]
    by_cases h : lo + e = k
    · rw [if_pos h, if_pos (by omega), Int.mul_comm]
    · rw [if_neg h, if_neg (by omega), Int.mul_zero]
theorem getD_smul (s : Int) (cs : List Int) (i : Nat) : (cs.map fun c => s * c).getD i 0 = s * cs.getD i 0 := by
  simp only [List.getD_eq_getElem?_getD, List.getElem?_map]
  cases cs[i]? <;> simp
theorem canon_unit {lo : Int} {A : List Int} (h : Cano lo A) (hn : A ≠ []) (e s : Int) (hs : s = 1 ∨ s = -1) : canon (of lo A * term e s) = (lo + e, A.map fun c => s * c) := by
  refine canon_eq (.inr ⟨by simpa using hn, ?_, ?_⟩) (of_smul s A lo e)
  · rcases h with h | h
    · exact absurd h.1 hn
    · rw [getD_smul]
      rcases hs with rfl | rfl
      · rw [Int.one_mul]; exact h.2.1
      · have := h.2.1; omega
  · rcases h with h | h
    · exact absurd h.1 hn
    · rw [List.length_map, getD_smul]
      rcases hs with rfl | rfl
      · rw [Int.one_mul]; exact h.2.2
      · have := h.2.2; omega
theorem normC_unit {A : List Int} {s : Int} (hs : s = 1 ∨ s = -1) (h : A.getD (A.length - 1) 0 ≠ 0) : normC (A.map fun c => s * c) = normC A := by
  unfold normC
  rw [List.map_map]
  refine List.map_congr_left fun c _ => ?_
  show sgL (A.map fun c => s * c) * (s * c) = sgL A * c
  have e : sgL (A.map fun c => s * c) = s * sgL A := by
    unfold sgL
    rw [List.length_map, getD_smul]
    rcases hs with rfl | rfl
    · rw [Int.one_mul, Int.one_mul]
    · generalize A.getD (A.length - 1) 0 = z at *
      by_cases hz : z < 0
      · rw [if_neg (by omega), if_pos hz]; rfl
      · rw [if_pos (by omega), if_neg hz]; rfl
  rw [e]
  rcases hs with rfl | rfl
  · rw [Int.one_mul, Int.one_mul]
  · grind

/-! ### dividing a product -/
theorem of_take {A : List Int} {lo : Int} {m : Nat} (h : m < A.length) : of lo (A.take (m + 1)) = of lo (A.take m) + term (lo + m) (A.getD m 0) := ext fun k => by
  have l1 : (A.take (m + 1)).length = m + 1 := by rw [List.length_take]; omega
  have l2 : (A.take m).length = m := by rw [List.length_take]; omega
  rw [co_add, co_term, co_of, co_of, l1, l2]
  by_cases h1 : lo ≤ k ∧ k < lo + m
  · rw [if_pos (by omega), if_pos h1, if_neg (by omega), Int.add_zero]
    have h2 : (k - lo).toNat < m := by omega
    simp only [List.getD_eq_getElem?_getD, List.getElem?_take]
    rw [if_pos (by omega), if_pos h2]
  · rw [if_neg h1]
    by_cases h2 : lo + m = k
    · rw [if_pos (by omega), if_pos h2, Int.zero_add, show (k - lo).toNat = m by omega]
      simp only [List.getD_eq_getElem?_getD, List.getElem?_take]
      rw [if_pos (by omega)]
    · rw [if_neg (by omega), if_neg h2]; rfl
/-- The highest coefficient of a product. -/
theorem co_top {A B : List Int} {la lb : Int} {m : Nat} (hm : m < A.length) (hB : 0 < B.length) : co (of la (A.take (m + 1)) * of lb B) (la + m + (lb + B.length - 1)) = A.getD m 0 * B.getD (B.length - 1) 0 := by
  have l1 : (A.take (m + 1)).length = m + 1 := by rw [List.length_take]; omega
  rw [co_of_mul, l1, CR.sumN_succ, CR.sumN_none fun i hi => ?_, CR.zero_add]
  · rw [show la + m + (lb + B.length - 1) - la - m = lb + ((B.length - 1 : Nat) : Int) by omega, co_of_at (by omega)]
    simp only [List.getD_eq_getElem?_getD, List.getElem?_take]
    rw [if_pos (by omega)]
  · rw [co_of_out (by omega), Int.mul_zero]
theorem divS_mul {A B : List Int} {la lb : Int} (hB : 0 < B.length) (hl : B.getD (B.length - 1) 0 * B.getD (B.length - 1) 0 = 1) (hA : ∀ c ∈ A, c.natAbs ≤ 100000000) :
    ∀ (m : Nat) (q : LP), m ≤ A.length → divS (of lb B) (lb + B.length - 1) (B.getD (B.length - 1) 0) m (la + m - 1) (of la (A.take m) * of lb B) q = (0, 0, q + of la (A.take m))
  | 0, q, _ => by
    show (0, of la [] * of lb B, q) = (0, 0, q + of la [])
    rw [show of la [] = 0 from rfl, CR.zero_mul, CR.add_zero]
  | m + 1, q, h => by
    have hk : co (of la (A.take (m + 1)) * of lb B) (la + (m + 1 : Nat) - 1 + (lb + B.length - 1)) * B.getD (B.length - 1) 0 = A.getD m 0 := by
      rw [show la + ((m + 1 : Nat) : Int) - 1 + (lb + B.length - 1) = la + m + (lb + B.length - 1) by omega, co_top (by omega) hB, Int.mul_assoc, hl, Int.mul_one]
    unfold divS
    rw [hk, if_neg (by have := hA _ (getD_mem' (show m < A.length by omega)); omega), of_take (by omega)]
    rw [show la + ((m + 1 : Nat) : Int) - 1 = la + m by omega]
    rw [CR.add_mul, CR.add_assoc, CR.add_neg, CR.add_zero, divS_mul hB hl hA m _ (by omega)]
    rw [CR.add_assoc, CR.add_comm (term _ _)]
theorem canon_mul {A B : List Int} {la lb : Int} (hA : Cano la A) (hB : Cano lb B) (nA : A ≠ []) (nB : B ≠ []) : (canon (of la A * of lb B)).1 = la + lb ∧ (canon (of la A * of lb B)).2.length = A.length + B.length - 1 := by
  have pA : 0 < A.length := List.length_pos_iff.2 nA
  have pB : 0 < B.length := List.length_pos_iff.2 nB
  have cA : A.getD 0 0 ≠ 0 ∧ A.getD (A.length - 1) 0 ≠ 0 := by
    rcases hA with h | h
    · exact absurd h.1 nA
    · exact h.2
  have cB : B.getD 0 0 ≠ 0 ∧ B.getD (B.length - 1) 0 ≠ 0 := by
    rcases hB with h | h
    · exact absurd h.1 nB
    · exact h.2
  have hlow : co (of la A * of lb B) (la + lb) ≠ 0 := by
    rw [co_of_mul]
    obtain ⟨p, hp⟩ : ∃ p, A.length = p + 1 := ⟨A.length - 1, by omega⟩
    rw [hp, CR.sumN_first, CR.sumN_none fun i hi => ?_, CR.add_zero]
    · rw [show la + lb - la - ((0 : Nat) : Int) = lb + ((0 : Nat) : Int) by omega, co_of_at pB]
      intro e
      rcases Int.mul_eq_zero.1 e with e | e
      · exact cA.1 e
      · exact cB.1 e
    · rw [co_of_out (by omega), Int.mul_zero]
  have hhigh : co (of la A * of lb B) (la + lb + (A.length + B.length - 2 : Nat)) ≠ 0 := by
    have h := co_top (A := A) (B := B) (la := la) (lb := lb) (m := A.length - 1) (by omega) pB
    rw [show A.length - 1 + 1 = A.length by omega, List.take_length] at h
    rw [show la + lb + ((A.length + B.length - 2 : Nat) : Int) = la + ((A.length - 1 : Nat) : Int) + (lb + B.length - 1) by omega, h]
    intro e
    rcases Int.mul_eq_zero.1 e with e | e
    · exact cA.2 e
    · exact cB.2 e
  have hsup : ∀ k, co (of la A * of lb B) k ≠ 0 → la + lb ≤ k ∧ k < la + lb + ((A.length + B.length - 2 + 1 : Nat) : Int) := fun k hk => by
    rw [co_of_mul] at hk
    by_cases hh : la + lb ≤ k ∧ k < la + lb + ((A.length + B.length - 2 + 1 : Nat) : Int)
    · exact hh
    · refine absurd (CR.sumN_none fun i hi => ?_) hk
      rw [co_of_out (by omega), Int.mul_zero]
  rw [canon_win hsup hlow hhigh]
  exact ⟨rfl, by rw [win_length]; omega⟩
end LP
end Go.Proofs.Ytihpmdfeonphpaa
/- More facts of what an operation gives: for regions that draw their order, and for straight ones (wpList_gives). -/
namespace Go.Proofs.Ytihpmdfeonphpaa
set_option linter.unusedVariables false
set_option linter.unusedSimpArgs false
open Go.RowKit Go.Maps

section
variable {P : Program} {o : Oper} {a : Act} {w : World} {K : Act → World → Prop} {Q : Exit → Act → World → Prop} {ops : Array Oper} {rest : List Oper}
theorem wpList_gives (hg : o.guard = none) {v : Value} (h : Gives P o a w v) (hK : wpList P ops Q rest (a.put o.dst v) w) : wpList P ops Q (o :: rest) a w :=
  wpList_plain hg fun _ hK' => wp_gives h (hK' _ _ hK)
theorem gives_lss {x y : Operand} {ty : TypeId} {m k : Int} {b : Bool} (ho : o.op = .binOp .lss 3 x y ty) (hx : a.eval x = .int .i64 m) (hy : a.eval y = .int .i64 k) (hz : decide (m < k) = b) : Gives P o a w (.bool b) := by
  subst hz
  unfold Gives execOp
  rw [ho]
  simp [hx, hy, eqGuard, binOp, Op.intCmp, Sem.run_bind, Result.andThen]
theorem gives_len {x : Operand} {t e : TypeId} {A : Option Addr} {n c : Nat} (ho : o.op = .call { callee := .builtin .len, args := #[x], argTypes := #[t] }) (ht : P.underlying t = some (.slice e)) (hx : a.eval x = .slice A n c) : Gives P o a w (.int .i64 n) := by
  unfold Gives execOp
  rw [ho]
  simp [hx, resolve, invoke, builtin, Builtin.len_, run_underlying ht, Sem.run_bind, Result.andThen, goInt]
theorem gives_pick {x y z : Operand} {b : Bool} {v : Value} (ho : o.op = .pick x y z) (hx : a.eval x = .bool b) (hv : (if b then a.eval y else a.eval z) = v) : Gives P o a w v := by
  subst hv
  unfold Gives execOp
  rw [ho]
  cases b <;> simp [hx, asBool, Sem.run_bind, Result.andThen]
theorem no {S : World → Prop} {o : Oper} {a : Act} (hg : Region.wanted o (yielded ops a.tmps) = false) : YieldsIf P ops S o undef a := .inr ⟨hg, rfl⟩
theorem wp_storeRow {ty : TypeId} {x y : Operand} {g : Nat} {cs old : Array Value} {t : TypeId} (ho : o.op = .store ty x y) (hx : a.eval x = .pointer (some ⟨g, 0, none⟩)) (hy : a.eval y = .agg cs) (hb : Blk w g t old) (hi : (P.info? ty).map (·.size) = some cs.size) (hs : old.size = cs.size) (h1 : cs.all (·.oneCell') = true)
    (hK : K (a.put o.dst undef) (w.setRow g cs)) : o.wp P a w K Q := wp_store_row ty x y ho g cs hx hy t old hb hi hs h1 hK
theorem gives_ibin {p : BinOp} {x y : Operand} {t ty : TypeId} {m k : Int} {v : Value} (ho : o.op = .binOp p t x y ty) (hx : a.eval x = .int .i64 m) (hy : a.eval y = .int .i64 k) (hg : (eqGuard p t x y (.int .i64 m) (.int .i64 k)).run P w = .ok () w) (h : (binOp p t (.int .i64 m) (.int .i64 k)).run P w = .ok v w) : Gives P o a w v := by
  unfold Gives execOp
  rw [ho]
  simp [hx, hy, hg, h, Sem.run_bind, Result.andThen]
theorem gives_add {x y : Operand} {ty : TypeId} {m k v : Int} (ho : o.op = .binOp .add 3 x y ty) (hx : a.eval x = .int .i64 m) (hy : a.eval y = .int .i64 k) (hz : IntKind.i64.wrap (m + k) = v) : Gives P o a w (.int .i64 v) := by
  subst hz
  unfold Gives execOp
  rw [ho]
  simp [hx, hy, eqGuard, binOp, Op.intArith, Sem.run_bind, Result.andThen]
theorem gives_sub {x y : Operand} {ty : TypeId} {m k v : Int} (ho : o.op = .binOp .sub 3 x y ty) (hx : a.eval x = .int .i64 m) (hy : a.eval y = .int .i64 k) (hz : IntKind.i64.wrap (m - k) = v) : Gives P o a w (.int .i64 v) := by
  subst hz
  unfold Gives execOp
  rw [ho]
  simp [hx, hy, eqGuard, binOp, Op.intArith, Sem.run_bind, Result.andThen]
theorem gives_mul {x y : Operand} {ty : TypeId} {m k v : Int} (ho : o.op = .binOp .mul 3 x y ty) (hx : a.eval x = .int .i64 m) (hy : a.eval y = .int .i64 k) (hz : IntKind.i64.wrap (m * k) = v) : Gives P o a w (.int .i64 v) := by
  subst hz
  unfold Gives execOp
  rw [ho]
  simp [hx, hy, eqGuard, binOp, Op.intArith, Sem.run_bind, Result.andThen]
theorem gives_quo {x y : Operand} {ty : TypeId} {m k v : Int} (ho : o.op = .binOp .quo 3 x y ty) (hx : a.eval x = .int .i64 m) (hy : a.eval y = .int .i64 k) (h0 : k ≠ 0) (hz : IntKind.i64.wrap (m.tdiv k) = v) : Gives P o a w (.int .i64 v) := by
  subst hz
  unfold Gives execOp
  rw [ho]
  simp [hx, hy, eqGuard, binOp, Op.intDiv, Sem.run_bind, Result.andThen, h0]
theorem gives_rem {x y : Operand} {ty : TypeId} {m k v : Int} (ho : o.op = .binOp .rem 3 x y ty) (hx : a.eval x = .int .i64 m) (hy : a.eval y = .int .i64 k) (h0 : k ≠ 0) (hz : m.tmod k = v) : Gives P o a w (.int .i64 v) := by
  subst hz
  unfold Gives execOp
  rw [ho]
  simp [hx, hy, eqGuard, binOp, Op.intDiv, Sem.run_bind, Result.andThen, h0]
theorem gives_gtr {x y : Operand} {ty : TypeId} {m k : Int} {b : Bool} (ho : o.op = .binOp .gtr 3 x y ty) (hx : a.eval x = .int .i64 m) (hy : a.eval y = .int .i64 k) (hz : decide (k < m) = b) : Gives P o a w (.bool b) := by
  subst hz
  unfold Gives execOp
  rw [ho]
  simp [hx, hy, eqGuard, binOp, Op.intCmp, Sem.run_bind, Result.andThen]
theorem gives_eql {x y : Operand} {ty : TypeId} {m k : Int} {b : Bool} (ho : o.op = .binOp .eql 3 x y ty) (hx : a.eval x = .int .i64 m) (hy : a.eval y = .int .i64 k) (hz : (m == k) = b) : Gives P o a w (.bool b) := by
  subst hz
  unfold Gives execOp
  rw [ho]
  simp [hx, hy, eqGuard, binOp, Op.intCmp, Sem.run_bind, Result.andThen]
theorem gives_neq {x y : Operand} {ty : TypeId} {m k : Int} {b : Bool} (ho : o.op = .binOp .neq 3 x y ty) (hx : a.eval x = .int .i64 m) (hy : a.eval y = .int .i64 k) (hz : (m != k) = b) : Gives P o a w (.bool b) := by
  subst hz
  unfold Gives execOp
  rw [ho]
  simp [hx, hy, eqGuard, binOp, Op.intCmp, Sem.run_bind, Result.andThen]
theorem gives_neg {x : Operand} {m v : Int} (ho : o.op = .unOp .neg 3 x) (hx : a.eval x = .int .i64 m) (hz : IntKind.i64.wrap (-m) = v) : Gives P o a w (.int .i64 v) := by
  subst hz
  unfold Gives execOp
  rw [ho]
  simp [hx, Op.unary, Op.intArith, Sem.run_bind, Result.andThen]

/-! ### a part of a slice -/
/-- Where a part of a slice begins. -/
def cutA (A : Option Addr) (l c : Nat) : Option Addr := if c = l then A else A.map (·.add l)
theorem gives_cut_lh {x lo hi : Operand} {t e : TypeId} {A : Option Addr} {n c l h : Nat} (ho : o.op = .slice t x (some lo) (some hi) none) (ht : P.underlying t = some (.slice e)) (hi0 : (P.info? e).map (·.size) = some 1) (hx : a.eval x = .slice A n c) (hl : a.eval lo = .int .i64 l) (hh : a.eval hi = .int .i64 h) (h1 : l ≤ h) (h2 : h ≤ c) :
    Gives P o a w (.slice (cutA A l c) (h - l) (c - l)) := by
  obtain ⟨ie, hie, hs⟩ := Option.map_eq_some_iff.1 hi0
  have he : P.elem t = e := by simp [Program.elem, ht]
  have ht' : P.underlying t = some (.slice (P.elem t)) := by rw [he]; exact ht
  have hsz : (sizeOf (P.elem t)).run P w = .ok 1 w := by rw [he]; simp [sizeOf, typeInfo, hie, hs]
  unfold Gives execOp
  rw [ho]
  simp only [hx, Option.map, hl, hh, run_sliceAt_slice w t _ _ _ _ ht', run_slice_lh w t A n c ht' .i64 .i64 l h (by omega) (by omega) (by omega), hsz, Sem.run_bind, Result.andThen_ok, sliced, Int.toNat_natCast, Nat.mul_one]
  rfl
theorem gives_cut_h {x hi : Operand} {t e : TypeId} {A : Option Addr} {n c h : Nat} (ho : o.op = .slice t x none (some hi) none) (ht : P.underlying t = some (.slice e)) (hi0 : (P.info? e).map (·.size) = some 1) (hx : a.eval x = .slice A n c) (hh : a.eval hi = .int .i64 h) (h2 : h ≤ c) :
    Gives P o a w (.slice (cutA A 0 c) (h - 0) (c - 0)) := by
  obtain ⟨ie, hie, hs⟩ := Option.map_eq_some_iff.1 hi0
  have he : P.elem t = e := by simp [Program.elem, ht]
  have ht' : P.underlying t = some (.slice (P.elem t)) := by rw [he]; exact ht
  have hsz : (sizeOf (P.elem t)).run P w = .ok 1 w := by rw [he]; simp [sizeOf, typeInfo, hie, hs]
  unfold Gives execOp
  rw [ho]
  simp only [hx, Option.map, hh, run_sliceAt_slice w t _ _ _ _ ht', run_slice_h w t A n c ht' .i64 h (by omega) (by omega), hsz, Sem.run_bind, Result.andThen_ok, sliced, Int.toNat_natCast, Nat.mul_one]
  rfl
theorem gives_cut_l {x lo : Operand} {t e : TypeId} {A : Option Addr} {n c l : Nat} (ho : o.op = .slice t x (some lo) none none) (ht : P.underlying t = some (.slice e)) (hi0 : (P.info? e).map (·.size) = some 1) (hx : a.eval x = .slice A n c) (hl : a.eval lo = .int .i64 l) (h1 : l ≤ n) :
    Gives P o a w (.slice (cutA A l c) (n - l) (c - l)) := by
  obtain ⟨ie, hie, hs⟩ := Option.map_eq_some_iff.1 hi0
  have he : P.elem t = e := by simp [Program.elem, ht]
  have ht' : P.underlying t = some (.slice (P.elem t)) := by rw [he]; exact ht
  have hsz : (sizeOf (P.elem t)).run P w = .ok 1 w := by rw [he]; simp [sizeOf, typeInfo, hie, hs]
  unfold Gives execOp
  rw [ho]
  simp only [hx, Option.map, hl, run_sliceAt_slice w t _ _ _ _ ht', run_slice_l w t A n c ht' .i64 l (by omega) (by omega), hsz, Sem.run_bind, Result.andThen_ok, sliced, Int.toNat_natCast, Nat.mul_one]
  rfl
end
/-- Just one may come up, guarded. -/
theorem wpAnyH_1g {P : Program} {ops : Array Oper} {Q : Exit → Act → World → Prop} {S : World → Prop} {md : Region.Mode} (i : Nat) {d : Option Tmp} {op : Op} {ty : TypeId} {pos : String} {af : Array Edge} {gd : Option (Tmp × Bool)} {fuel : Nat} {listed : Array Bool} {a : Act} {w : World} (ho : ops[i]? = some ⟨d, op, ty, pos, af, gd⟩) (hr : Region.ready md ops listed = [i])
    (hg : Region.wanted ⟨d, op, ty, pos, af, gd⟩ (yielded ops a.tmps) = true)
    (h : Oper.wp P ⟨d, op, ty, pos, af, gd⟩ a w (fun a' w' => S w' ∧ wpAnyH P md ops Q S fuel (listed.setIfInBounds i true) a' w') Q) : wpAnyH P md ops Q S (fuel + 1) listed a w :=
  wpAnyH_one hr ho hg h
theorem gives_min {P : Program} {o : Oper} {a : Act} {w : World} {x y : Operand} {ts : Array TypeId} {m n r : Nat} (ho : o.op = .call { callee := .builtin .min, args := #[x, y], argTypes := ts }) (hx : a.eval x = .int .i64 m) (hy : a.eval y = .int .i64 n) (h : min m n = r) : Gives P o a w (.int .i64 r) := by
  have hr : (if (n : Int) < (m : Int) then (n : Int) else (m : Int)) = (r : Int) := by
    by_cases h1 : n < m
    · rw [if_pos (by omega)]; omega
    · rw [if_neg (by omega)]; omega
  unfold Gives execOp
  rw [ho]
  simp only [resolve, invoke, builtin, Sem.run_bind, Sem.run_pure, Result.andThen_ok, List.map_toArray, List.map_cons, List.map_nil, hx, hy, run_min_int2, hr]
theorem gives_leq {P : Program} {o : Oper} {a : Act} {w : World} {x y : Operand} {ty : TypeId} {m k : Int} {b : Bool} (ho : o.op = .binOp .leq 3 x y ty) (hx : a.eval x = .int .i64 m) (hy : a.eval y = .int .i64 k) (hz : decide (m ≤ k) = b) : Gives P o a w (.bool b) := by
  subst hz
  unfold Gives execOp
  rw [ho]
  simp [hx, hy, eqGuard, binOp, Op.intCmp, Sem.run_bind, Result.andThen]
/-- A slice stored into a cell. -/
theorem wp_storeS {P : Program} {o : Oper} {a : Act} {w : World} {K : Act → World → Prop} {Q : Exit → Act → World → Prop} {ty : TypeId} {x y : Operand} {ad : Addr} {A : Option Addr} {n c : Nat} {old : Value} (ho : o.op = .store ty x y) (h1 : (isAgg ty).run P w = .ok false w) (hsz : (sizeOf ty).run P w = .ok 1 w) (hx : a.eval x = .pointer (some ad)) (hy : a.eval y = .slice A n c)
    (hc : w.cell? ad = some old) (hf : w.frozen? ad = false) (hK : K (a.put o.dst undef) (w.setCell ad (.slice A n c))) : o.wp P a w K Q := by
  unfold Oper.wp execOp
  rw [ho]
  simp only [hx, hy, Instr.storeAt, Instr.sureAddr, Sem.run_bind, Sem.run_pure, Result.andThen_ok]
  have e0 : ad.add 0 = ad := by unfold Addr.add; simp
  simp [storeVar, Sem.run_bind, h1, hsz, Value.cells, storeCells, run_store_slice, stored, e0, hc, hf, Result.andThen]
  exact hK
/-- An integer stored into a cell. -/
theorem wp_storeI {P : Program} {o : Oper} {a : Act} {w : World} {K : Act → World → Prop} {Q : Exit → Act → World → Prop} {ty : TypeId} {x y : Operand} {ad : Addr} {q : IntKind} {v : Int} {old : Value} (ho : o.op = .store ty x y) (h1 : (isAgg ty).run P w = .ok false w) (hsz : (sizeOf ty).run P w = .ok 1 w) (hx : a.eval x = .pointer (some ad)) (hy : a.eval y = .int q v)
    (hc : w.cell? ad = some old) (hf : w.frozen? ad = false) (hK : K (a.put o.dst undef) (w.setCell ad (.int q v))) : o.wp P a w K Q := by
  unfold Oper.wp execOp
  rw [ho]
  simp only [hx, hy, Instr.storeAt, Instr.sureAddr, Sem.run_bind, Sem.run_pure, Result.andThen_ok]
  have e0 : ad.add 0 = ad := by unfold Addr.add; simp
  simp [storeVar, Sem.run_bind, h1, hsz, Value.cells, storeCells, run_store_int, stored, e0, hc, hf, Result.andThen]
  exact hK
theorem gives_indexA {P : Program} {o : Oper} {a : Act} {w : World} {t e : TypeId} {x y : Operand} {ad : Addr} {k n c : Nat} {q : IntKind} (ho : o.op = .indexAddr t x y) (ht : P.underlying t = some (.slice e)) (he : ∀ w, (sizeOf e).run P w = .ok 1 w) (hx : a.eval x = .slice (some ad) n c) (hy : a.eval y = .int q k) (hk : k < n) :
    Gives P o a w (.pointer (some (ad.add k))) := by
  have := gives_indexSlice (w := w) ho ht he hx hy hk
  rwa [Nat.mul_one] at this
theorem IL.cut {w : World} {A : Option Addr} {n c l h : Nat} {xs : List Int} (ha : IL w A n xs) (h1 : l ≤ h) (h2 : h ≤ n) (hc : n ≤ c) : IL w (cutA A l c) (h - l) ((xs.drop l).take (h - l)) := by
  have hl := ha.len
  refine ⟨by simp; omega, by have := ha.small; omega, fun h0 => ?_⟩
  obtain ⟨ad, rfl, hlt, hcl⟩ := ha.mem (by omega)
  unfold cutA
  rw [if_neg (by omega)]
  refine ⟨ad.add l, rfl, by rw [block_of_add]; exact hlt, fun j hj => ?_⟩
  rw [add_of_add, hcl (l + j) (by omega)]
  simp [List.getD, List.getElem?_take, List.getElem?_drop, hj]
theorem cutA_none {A : Option Addr} {n c l h : Nat} (hA : A = none → n = 0 ∧ c = 0) (h1 : l ≤ h) (h2 : h ≤ n) (he : cutA A l c = none) : h - l = 0 ∧ c - l = 0 := by
  cases A with
  | none => have := hA rfl; omega
  | some ad =>
    unfold cutA at he
    split at he <;> cases he
end Go.Proofs.Ytihpmdfeonphpaa
/- Determinants over a commutative ring: what alternates and is linear in each row is a multiple of the determinant. -/
namespace Go.Proofs.Ytihpmdfeonphpaa
set_option linter.unusedVariables false
set_option linter.unusedSimpArgs false
open CR

abbrev Mtx (R : Type) := Nat → Nat → R
set_option linter.unusedSectionVars false
section
variable {R : Type} [CR R]
/-- Row r replaced. -/
def updR (M : Mtx R) (r : Nat) (v : Nat → R) : Mtx R := fun i j => if i = r then v j else M i j
theorem updR_same (M : Mtx R) (r : Nat) (v : Nat → R) : updR M r v r = v := by funext j; simp [updR]
theorem updR_ne (M : Mtx R) {r i : Nat} (v : Nat → R) (h : i ≠ r) : updR M r v i = M i := by funext j; simp [updR, h]
theorem updR_self (M : Mtx R) (r : Nat) : updR M r (M r) = M := by
  funext i j
  unfold updR
  by_cases h : i = r
  · rw [if_pos h, h]
  · rw [if_neg h]
theorem updR_updR (M : Mtx R) (r : Nat) (u v : Nat → R) : updR (updR M r u) r v = updR M r v := by
  funext i j
  unfold updR
  by_cases h : i = r
  · rw [if_pos h, if_pos h]
  · rw [if_neg h, if_neg h, if_neg h]
theorem updR_comm (M : Mtx R) {r s : Nat} (u v : Nat → R) (h : r ≠ s) : updR (updR M r u) s v = updR (updR M s v) r u := by
  funext i j
  unfold updR
  by_cases h1 : i = r
  · subst h1
    rw [if_neg h, if_pos rfl, if_pos rfl]
  · rw [if_neg h1, if_neg h1]

/-- Linear in each of n rows, and zero if two of them are equal. -/
structure Alt (n : Nat) (F : Mtx R → R) : Prop where
  ext : ∀ A B : Mtx R, (∀ i, i < n → ∀ j, j < n → A i j = B i j) → F A = F B
  add : ∀ (M : Mtx R) (r : Nat) (u v : Nat → R), r < n → F (updR M r fun j => u j + v j) = F (updR M r u) + F (updR M r v)
  smul : ∀ (M : Mtx R) (r : Nat) (c : R) (u : Nat → R), r < n → F (updR M r fun j => c * u j) = c * F (updR M r u)
  alt : ∀ (M : Mtx R) (r s : Nat), r < s → s < n → (∀ j, j < n → M r j = M s j) → F M = 0

variable {n : Nat} {F : Mtx R → R}
theorem Alt.zero (h : Alt n F) (M : Mtx R) {r : Nat} (hr : r < n) : F (updR M r fun _ => 0) = 0 := by
  have := h.smul M r 0 (fun _ => 0) hr
  simp only [zero_mul] at this
  exact this
theorem Alt.alt' (h : Alt n F) (M : Mtx R) {r s : Nat} (hr : r < n) (hs : s < n) (hne : r ≠ s) (he : ∀ j, j < n → M r j = M s j) : F M = 0 := by
  rcases Nat.lt_or_gt_of_ne hne with h1 | h1
  · exact h.alt M r s h1 hs he
  · exact h.alt M s r h1 hr fun j hj => (he j hj).symm
/-- A multiple of another row may be added. -/
theorem Alt.addRow (h : Alt n F) (M : Mtx R) {r s : Nat} (c : R) (hr : r < n) (hs : s < n) (hne : r ≠ s) : F (updR M r fun j => M r j + c * M s j) = F M := by
  rw [h.add M r _ _ hr, updR_self, h.smul M r c _ hr, h.alt' (updR M r (M s)) hr hs hne, mul_zero, add_zero]
  intro j _
  rw [updR_same, updR_ne _ _ (Ne.symm hne)]
/-- Rows r and s exchanged. -/
def swapR (M : Mtx R) (r s : Nat) : Mtx R := updR (updR M r (M s)) s (M r)
theorem Alt.swap (h : Alt n F) (M : Mtx R) {r s : Nat} (hr : r < n) (hs : s < n) (hne : r ≠ s) : F (swapR M r s) = -F M := by
  have key : ∀ u v : Nat → R, F (updR (updR M r u) s v) + F (updR (updR M r v) s u) = 0 := by
    intro u v
    have h0 : F (updR (updR M r fun j => u j + v j) s fun j => u j + v j) = 0 :=
      h.alt' _ hr hs hne fun j _ => by rw [updR_same, updR_ne _ _ hne, updR_same]
    rw [h.add _ s _ _ hs, updR_comm _ _ _ hne, updR_comm _ _ _ hne, h.add _ r _ _ hr, h.add _ r _ _ hr] at h0
    have e1 : F (updR (updR M s u) r u) = 0 := h.alt' _ hr hs hne fun j _ => by rw [updR_same, updR_ne _ _ (Ne.symm hne), updR_same]
    have e2 : F (updR (updR M s v) r v) = 0 := h.alt' _ hr hs hne fun j _ => by rw [updR_same, updR_ne _ _ (Ne.symm hne), updR_same]
    rw [e1, e2, zero_add, add_zero] at h0
    rw [updR_comm _ _ _ hne, updR_comm _ _ _ hne, add_comm]
    exact h0
  have h1 := key (M r) (M s)
  rw [updR_self, updR_self] at h1
  rw [add_comm] at h1
  exact eq_neg_of_add h1
/-- A row that is a sum. -/
theorem Alt.rowSum (h : Alt n F) (M : Mtx R) {r : Nat} (hr : r < n) (c : Nat → R) (u : Nat → Nat → R) : ∀ k, F (updR M r fun j => sumN k fun l => c l * u l j) = sumN k fun l => c l * F (updR M r (u l))
  | 0 => h.zero M hr
  | k + 1 => by
    rw [sumN_succ, ← h.rowSum M hr c u k, ← h.smul M r (c k) (u k) hr, ← h.add M r _ _ hr]
    rfl

/-- If equal neighbours are enough. -/
theorem Alt.of_adj {F : Mtx R → R} (h1 : ∀ A B : Mtx R, (∀ i, i < n → ∀ j, j < n → A i j = B i j) → F A = F B)
    (h2 : ∀ (M : Mtx R) (r : Nat) (u v : Nat → R), r < n → F (updR M r fun j => u j + v j) = F (updR M r u) + F (updR M r v))
    (h3 : ∀ (M : Mtx R) (r : Nat) (c : R) (u : Nat → R), r < n → F (updR M r fun j => c * u j) = c * F (updR M r u))
    (h4 : ∀ (M : Mtx R) (r : Nat), r + 1 < n → (∀ j, j < n → M r j = M (r + 1) j) → F M = 0) : Alt n F := by
  refine ⟨h1, h2, h3, ?_⟩
  have sw : ∀ (M : Mtx R) (r : Nat), r + 1 < n → F (swapR M r (r + 1)) = -F M := by
    intro M r hr
    have hne : r ≠ r + 1 := by omega
    have key : ∀ u v : Nat → R, F (updR (updR M r u) (r + 1) v) + F (updR (updR M r v) (r + 1) u) = 0 := by
      intro u v
      have h0 : F (updR (updR M r fun j => u j + v j) (r + 1) fun j => u j + v j) = 0 :=
        h4 _ r hr fun j _ => by rw [updR_same, updR_ne _ _ hne, updR_same]
      rw [h2 _ (r + 1) _ _ hr, updR_comm _ _ _ hne, updR_comm _ _ _ hne, h2 _ r _ _ (by omega), h2 _ r _ _ (by omega)] at h0
      have e1 : F (updR (updR M (r + 1) u) r u) = 0 := h4 _ r hr fun j _ => by rw [updR_same, updR_ne _ _ (Ne.symm hne), updR_same]
      have e2 : F (updR (updR M (r + 1) v) r v) = 0 := h4 _ r hr fun j _ => by rw [updR_same, updR_ne _ _ (Ne.symm hne), updR_same]
      rw [e1, e2, zero_add, add_zero] at h0
      rw [updR_comm _ _ _ hne, updR_comm _ _ _ hne, add_comm]
      exact h0
    have h1 := key (M r) (M (r + 1))
    rw [updR_self, updR_self] at h1
    rw [add_comm] at h1
    exact eq_neg_of_add h1
  have main : ∀ (d : Nat) (M : Mtx R) (r : Nat), r + 1 + d < n → (∀ j, j < n → M r j = M (r + 1 + d) j) → F M = 0 := by
    intro d
    induction d with
    | zero => intro M r hr he; exact h4 M r hr he
    | succ d ih =>
      intro M r hr he
      have h5 := ih (swapR M r (r + 1)) (r + 1) (by omega) (fun j hj => by
        have a1 : swapR M r (r + 1) (r + 1) = M r := updR_same _ _ _
        have a2 : swapR M r (r + 1) (r + 1 + 1 + d) = M (r + 1 + (d + 1)) := by
          unfold swapR
          rw [updR_ne _ _ (by omega), updR_ne _ _ (by omega), show r + 1 + 1 + d = r + 1 + (d + 1) by omega]
        rw [a1, a2]
        exact he j hj)
      rw [sw M r (by omega)] at h5
      exact zero_of_neg h5
  intro M r s hrs hs he
  obtain ⟨d, rfl⟩ : ∃ d, s = r + 1 + d := ⟨s - (r + 1), by omega⟩
  exact main d M r hs he

/-! ### the determinant -/
/-- Along the first row. -/
def detR : Nat → Mtx R → R
  | 0, _ => 1
  | n + 1, M => sumN (n + 1) fun j => sgR R j * (M 0 j * detR n fun a b => M (a + 1) (skip j b))
/-- Along the first column. -/
def detC : Nat → Mtx R → R
  | 0, _ => 1
  | n + 1, M => sumN (n + 1) fun i => sgR R i * (M i 0 * detC n fun a b => M (skip i a) (b + 1))
def oneM : Mtx R := fun i j => if i = j then 1 else 0
def unskip (l j : Nat) : Nat := if j < l then j else j - 1
theorem unskip_skip (l j : Nat) : unskip l (skip l j) = j := by unfold unskip skip; grind
theorem skip_unskip {l j : Nat} (h : j ≠ l) : skip l (unskip l j) = j := by unfold unskip skip; grind
theorem skip_ne (l j : Nat) : skip l j ≠ l := by unfold skip; split <;> omega
theorem skip_lt {l j n : Nat} (h : j < n) : skip l j < n + 1 := by unfold skip; split <;> omega
theorem skip_inj {l i j : Nat} (h : skip l i = skip l j) : i = j := by rw [← unskip_skip l i, h, unskip_skip]

/-- The smaller matrix N below the row e l. -/
def below1 (l : Nat) (N : Mtx R) : Mtx R := fun i j => if i = 0 then (if j = l then 1 else 0) else if j = l then 0 else N (i - 1) (unskip l j)
theorem below1_upd (l : Nat) (N : Mtx R) (r : Nat) (v : Nat → R) : below1 l (updR N r v) = updR (below1 l N) (r + 1) (fun j => if j = l then 0 else v (unskip l j)) := by
  funext i j
  unfold below1 updR
  grind
theorem Alt.below {F : Mtx R → R} (h : Alt (n + 1) F) {l : Nat} (hl : l < n + 1) : Alt n fun N => F (below1 l N) := by
  refine ⟨fun A B he => h.ext _ _ fun i hi j hj => ?_, fun M r u v hr => ?_, fun M r c u hr => ?_, fun M r s hrs hs he => ?_⟩
  · unfold below1
    by_cases h0 : i = 0
    · rw [if_pos h0, if_pos h0]
    · rw [if_neg h0, if_neg h0]
      by_cases h2 : j = l
      · rw [if_pos h2, if_pos h2]
      · rw [if_neg h2, if_neg h2]
        exact he _ (by omega) _ (by unfold unskip; split <;> omega)
  · show F (below1 l (updR M r _)) = F (below1 l (updR M r u)) + F (below1 l (updR M r v))
    rw [below1_upd, below1_upd, below1_upd, ← h.add _ (r + 1) _ _ (by omega)]
    congr 2
    funext j
    by_cases h2 : j = l
    · rw [if_pos h2, if_pos h2, if_pos h2, zero_add]
    · rw [if_neg h2, if_neg h2, if_neg h2]
  · show F (below1 l (updR M r _)) = c * F (below1 l (updR M r u))
    rw [below1_upd, below1_upd, ← h.smul _ (r + 1) c _ (by omega)]
    congr 2
    funext j
    by_cases h2 : j = l
    · rw [if_pos h2, if_pos h2, mul_zero]
    · rw [if_neg h2, if_neg h2]
  · refine h.alt _ (r + 1) (s + 1) (by omega) (by omega) fun j hj => ?_
    have := he (unskip l j)
    unfold below1 unskip at *
    grind
/-- Below the row e l its column may be cleared. -/
theorem Alt.clear_ {F : Mtx R → R} (h : Alt (n + 1) F) (M : Mtx R) {l : Nat} (hl : l < n + 1) (h0 : ∀ j, M 0 j = if j = l then 1 else 0) : ∀ k, k ≤ n → F M = F fun i j => if i ≠ 0 ∧ i ≤ k ∧ j = l then 0 else M i j
  | 0, _ => by
    congr 1
    funext i j
    rw [if_neg (by omega)]
  | k + 1, hk => by
    rw [h.clear_ M hl h0 k (by omega)]
    have h2 := h.addRow (fun i j => if i ≠ 0 ∧ i ≤ k ∧ j = l then 0 else M i j) (r := k + 1) (s := 0) (-(M (k + 1) l)) (by omega) (by omega) (by omega)
    rw [← h2]
    congr 1
    funext i j
    have e1 := add_neg (M (k + 1) l)
    have e2 := mul_one (-M (k + 1) l)
    have e3 := mul_zero (-M (k + 1) l)
    have e4 := add_zero (M (k + 1) j)
    have e5 := h0 j
    unfold updR
    grind
theorem Alt.unit {F : Mtx R → R} (h : Alt (n + 1) F) : ∀ l, l < n + 1 → F (below1 l oneM) = sgR R l * F oneM
  | 0, _ => by
    rw [sgR_zero, one_mul]
    congr 1
    funext i j
    unfold below1 oneM unskip
    grind
  | l + 1, hl => by
    have hs := h.swap (below1 l oneM) (r := 0) (s := l + 1) (by omega) hl (by omega)
    rw [h.unit l (by omega)] at hs
    rw [sgR_succ, neg_mul, ← hs]
    congr 1
    funext i j
    unfold swapR updR below1 oneM unskip
    grind
/-- What is linear and alternates is a multiple of the determinant. -/
theorem Alt.eq : ∀ {n : Nat} {F : Mtx R → R}, Alt n F → ∀ M, F M = detR n M * F oneM
  | 0, F, h, M => by
    rw [show detR 0 M = 1 from rfl, one_mul]
    exact h.ext _ _ fun i hi => absurd hi (by omega)
  | n + 1, F, h, M => by
    have h1 : F M = sumN (n + 1) fun l => M 0 l * F (updR M 0 fun j => if j = l then 1 else 0) := by
      rw [← h.rowSum M (by omega)]
      refine h.ext _ _ fun i hi j hj => ?_
      unfold updR
      by_cases h0 : i = 0
      · rw [if_pos h0]
        dsimp only
        rw [sumN_single (k := j) hj]
        · rw [if_pos rfl, mul_one, h0]
        · intro l _ hne
          rw [if_neg (Ne.symm hne), mul_zero]
      · rw [if_neg h0]
    have h2 : ∀ l, l < n + 1 → F (updR M 0 fun j => if j = l then 1 else 0) = detR n (fun a b => M (a + 1) (skip l b)) * (sgR R l * F oneM) := by
      intro l hl
      rw [← h.unit l hl, ← (h.below hl).eq fun a b => M (a + 1) (skip l b)]
      rw [h.clear_ _ hl (fun j => by rw [updR_same]) n (Nat.le_refl _)]
      refine h.ext _ _ fun i hi j hj => ?_
      have e := @skip_unskip l j
      unfold below1 updR
      grind
    rw [h1]
    show _ = (sumN (n + 1) fun j => sgR R j * (M 0 j * detR n fun a b => M (a + 1) (skip j b))) * F oneM
    rw [mul_comm, ← sumN_mul]
    refine sumN_congr fun l hl => ?_
    rw [h2 l hl]
    ac_rfl

/-! ### it is one itself -/
theorem detC_congr : ∀ {n : Nat} {A B : Mtx R}, (∀ i, i < n → ∀ j, j < n → A i j = B i j) → detC n A = detC n B
  | 0, _, _, _ => rfl
  | n + 1, A, B, h => sumN_congr fun i hi => by
    rw [h i hi 0 (by omega), detC_congr fun a ha b hb => h _ (skip_lt ha) _ (by omega)]
theorem detR_congr : ∀ {n : Nat} {A B : Mtx R}, (∀ i, i < n → ∀ j, j < n → A i j = B i j) → detR n A = detR n B
  | 0, _, _, _ => rfl
  | n + 1, A, B, h => sumN_congr fun i hi => by
    rw [h 0 (by omega) i hi, detR_congr fun a ha b hb => h _ (by omega) _ (skip_lt hb)]
theorem minor_upd (M : Mtx R) (i r : Nat) (v : Nat → R) (h : r ≠ i) : (fun a b => updR M r v (skip i a) (b + 1)) = updR (fun a b => M (skip i a) (b + 1)) (unskip i r) fun b => v (b + 1) := by
  funext a b
  unfold updR
  by_cases e : skip i a = r
  · rw [if_pos e, if_pos (by rw [← e, unskip_skip])]
  · rw [if_neg e, if_neg (fun h2 => e (by rw [h2, skip_unskip h]))]
theorem minor_upd_same (M : Mtx R) (r : Nat) (v : Nat → R) : (fun a b => updR M r v (skip r a) (b + 1)) = fun a b => M (skip r a) (b + 1) := by
  funext a b
  rw [updR_ne _ _ (skip_ne r a)]
theorem detC_alt : ∀ n, Alt n (detC n : Mtx R → R)
  | 0 => ⟨fun _ _ h => rfl, fun _ r _ _ h => absurd h (by omega), fun _ r _ _ h => absurd h (by omega), fun _ r s h1 h2 => absurd h2 (by omega)⟩
  | n + 1 => by
    have ih : Alt n (detC n : Mtx R → R) := detC_alt n
    refine Alt.of_adj (fun A B h => detC_congr h) (fun M r u v hr => ?_) (fun M r c u hr => ?_) (fun M r hr he => ?_)
    · show sumN (n + 1) _ = sumN (n + 1) _ + sumN (n + 1) _
      rw [← sumN_add]
      refine sumN_congr fun i hi => ?_
      by_cases e : i = r
      · subst e
        simp only [minor_upd_same, updR_same]
        rw [add_mul, mul_add]
      · simp only [minor_upd _ _ _ _ (Ne.symm e), updR_ne _ _ e]
        rw [ih.add _ _ (fun b => u (b + 1)) (fun b => v (b + 1)) (by unfold unskip; split <;> omega), mul_add, mul_add]
    · show sumN (n + 1) _ = c * sumN (n + 1) _
      rw [← sumN_mul]
      refine sumN_congr fun i hi => ?_
      by_cases e : i = r
      · subst e
        simp only [minor_upd_same, updR_same]
        ac_rfl
      · simp only [minor_upd _ _ _ _ (Ne.symm e), updR_ne _ _ e]
        rw [ih.smul _ _ c (fun b => u (b + 1)) (by unfold unskip; split <;> omega)]
        ac_rfl
    · show sumN (n + 1) _ = 0
      have e1 : (fun a b => M (skip r a) (b + 1)) = fun a b => M (if a = r then r + 1 else skip (r + 1) a) (b + 1) := by
        funext a b
        by_cases h : a = r
        · rw [if_pos h, h, show skip r r = r + 1 by unfold skip; rw [if_neg (by omega)]]
        · rw [if_neg h]
          congr 1
          unfold skip
          split <;> split <;> omega
      have e2 : detC n (fun a b => M (skip r a) (b + 1)) = detC n (fun a b => M (skip (r + 1) a) (b + 1)) := by
        rw [e1]
        refine detC_congr fun a ha b hb => ?_
        by_cases h : a = r
        · rw [if_pos h, h, show skip (r + 1) r = r by unfold skip; rw [if_pos (by omega)]]
          exact (he (b + 1) (by omega)).symm
        · rw [if_neg h]
      have hz : ∀ i, i < n + 1 → i ≠ r → i ≠ r + 1 → detC n (fun a b => M (skip i a) (b + 1)) = 0 := by
        intro i hi h1 h2
        refine ih.alt' _ (r := unskip i r) (s := unskip i (r + 1)) (by unfold unskip; split <;> omega) (by unfold unskip; split <;> omega) (fun h => ?_) (fun j hj => ?_)
        · have := congrArg (skip i) h
          rw [skip_unskip (Ne.symm h1), skip_unskip (Ne.symm h2)] at this
          omega
        · show M (skip i (unskip i r)) (j + 1) = M (skip i (unskip i (r + 1))) (j + 1)
          rw [skip_unskip (Ne.symm h1), skip_unskip (Ne.symm h2)]
          exact he (j + 1) (by omega)
      rw [sumN_skip _ (show r ≤ n by omega)]
      have h3 : (sumN n fun b => sgR R (skip r b) * (M (skip r b) 0 * detC n fun a b_1 => M (skip (skip r b) a) (b_1 + 1))) = sgR R (r + 1) * (M (r + 1) 0 * detC n fun a b => M (skip (r + 1) a) (b + 1)) := by
        have := sumN_single (f := fun b => sgR R (skip r b) * (M (skip r b) 0 * detC n fun a b_1 => M (skip (skip r b) a) (b_1 + 1))) (n := n) (k := r) (by omega) (fun i hi hne => by
          rw [hz _ (skip_lt hi) (skip_ne r i) (fun h => hne (by unfold skip at h; split at h <;> omega)), mul_zero, mul_zero])
        rw [this, show skip r r = r + 1 by unfold skip; rw [if_neg (by omega)]]
      rw [h3, e2, he 0 (by omega), sgR_succ, neg_mul, add_neg]
theorem detC_one : ∀ n, detC n (oneM : Mtx R) = 1
  | 0 => rfl
  | n + 1 => by
    show sumN (n + 1) _ = 1
    rw [sumN_single (k := 0) (by omega)]
    · rw [sgR_zero, one_mul]
      have : (fun a b => (oneM : Mtx R) (skip 0 a) (b + 1)) = oneM := by
        funext a b
        unfold oneM skip
        grind
      rw [this, detC_one n, mul_one]
      exact if_pos rfl
    · intro i hi hne
      rw [show (oneM : Mtx R) i 0 = 0 from if_neg hne, zero_mul, mul_zero]
theorem detC_eq (n : Nat) (M : Mtx R) : detC n M = detR n M := by rw [(detC_alt n).eq M, detC_one, mul_one]
theorem detR_alt (n : Nat) : Alt n (detR n : Mtx R → R) := by
  have : (detR n : Mtx R → R) = detC n := funext fun M => (detC_eq n M).symm
  rw [this]
  exact detC_alt n
theorem detR_one (n : Nat) : detR n (oneM : Mtx R) = 1 := by rw [← detC_eq, detC_one]
def turnM (M : Mtx R) : Mtx R := fun i j => M j i
theorem detC_turn : ∀ (n : Nat) (M : Mtx R), detC n (turnM M) = detR n M
  | 0, _ => rfl
  | n + 1, M => sumN_congr fun i hi => by
    rw [← detC_turn n]
    rfl
theorem detR_turn (n : Nat) (M : Mtx R) : detR n (turnM M) = detR n M := by rw [← detC_eq, detC_turn]
/-- A product of matrices. -/
def mulM (n : Nat) (A B : Mtx R) : Mtx R := fun i j => sumN n fun k => A i k * B k j
theorem mulM_upd (n : Nat) (A B : Mtx R) (r : Nat) (v : Nat → R) : mulM n (updR A r v) B = updR (mulM n A B) r fun j => sumN n fun k => v k * B k j := by
  funext i j
  unfold mulM updR
  by_cases h : i = r
  · rw [if_pos h]; simp only [if_pos h]
  · rw [if_neg h]; simp only [if_neg h]
theorem detR_mul (n : Nat) (A B : Mtx R) : detR n (mulM n A B) = detR n A * detR n B := by
  have h : Alt n (detR n : Mtx R → R) := detR_alt n
  have hF : Alt n fun A => detR n (mulM n A B) := by
    refine ⟨fun A A' he => h.ext _ _ fun i hi j hj => sumN_congr fun k hk => by rw [he i hi k hk], fun M r u v hr => ?_, fun M r c u hr => ?_, fun M r s hrs hs he => h.alt _ r s hrs hs fun j hj => sumN_congr fun k hk => by rw [he k hk]⟩
    · show detR n (mulM n (updR M r _) B) = detR n (mulM n (updR M r u) B) + detR n (mulM n (updR M r v) B)
      rw [mulM_upd, mulM_upd, mulM_upd, ← h.add _ r _ _ hr]
      congr 2
      funext j
      rw [← sumN_add]
      exact sumN_congr fun k _ => add_mul _ _ _
    · show detR n (mulM n (updR M r _) B) = c * detR n (mulM n (updR M r u) B)
      rw [mulM_upd, mulM_upd, ← h.smul _ r _ _ hr]
      congr 2
      funext j
      rw [← sumN_mul]
      exact sumN_congr fun k _ => mul_assoc _ _ _
  have h1 := hF.eq A
  have h2 : detR n (mulM n oneM B) = detR n B := detR_congr fun i hi j hj => by
    show (sumN n fun k => oneM i k * B k j) = B i j
    rw [sumN_single (k := i) hi]
    · rw [show (oneM : Mtx R) i i = 1 from if_pos rfl, one_mul]
    · intro k _ hne
      rw [show (oneM : Mtx R) i k = 0 from if_neg (Ne.symm hne), zero_mul]
  rw [← h2]
  exact h1
end
end Go.Proofs.Ytihpmdfeonphpaa
/- Plain mathematics: the sign of a permutation by inversions, and by cycles. -/
namespace Go.Proofs.Ytihpmdfeonphpaa
set_option linter.unusedVariables false
set_option linter.unusedSimpArgs false

/-- The sign, changed for each of the first k elements that is greater than element i. -/
def parIn (a : List Nat) (i : Nat) (s : Int) : Nat → Int
  | 0 => s
  | k + 1 => if a.getD i 0 < a.getD k 0 then -parIn a i s k else parIn a i s k
/-- The sign of the first i elements. -/
def parTo (a : List Nat) : Nat → Int
  | 0 => 1
  | i + 1 => parIn a i (parTo a i) i
theorem parIn_one (a : List Nat) (i : Nat) {s : Int} (hs : s = 1 ∨ s = -1) : ∀ k, parIn a i s k = 1 ∨ parIn a i s k = -1
  | 0 => hs
  | k + 1 => by
    have := parIn_one a i hs k
    rw [parIn]
    split <;> omega
theorem parTo_one (a : List Nat) : ∀ i, parTo a i = 1 ∨ parTo a i = -1
  | 0 => .inl rfl
  | i + 1 => parIn_one a i (parTo_one a i) i

/-- 1 for an even number, -1 for an odd one. -/
def sg (m : Nat) : Int := if m % 2 = 0 then 1 else -1
theorem sg_succ (m : Nat) : sg (m + 1) = -sg m := by
  unfold sg
  by_cases h : m % 2 = 0
  · rw [if_pos h, if_neg (by omega)]
  · rw [if_neg h, if_pos (by omega)]; rfl
theorem sg_add (m k : Nat) : sg (m + k) = sg m * sg k := by
  unfold sg
  by_cases h : m % 2 = 0 <;> by_cases h2 : k % 2 = 0
  · rw [if_pos h, if_pos h2, if_pos (by omega)]; rfl
  · rw [if_pos h, if_neg h2, if_neg (by omega)]; rfl
  · rw [if_neg h, if_pos h2, if_neg (by omega)]; rfl
  · rw [if_neg h, if_neg h2, if_pos (by omega)]; rfl
theorem sg_sq (m : Nat) : sg m * sg m = 1 := by
  unfold sg
  by_cases h : m % 2 = 0
  · rw [if_pos h]; rfl
  · rw [if_neg h]; rfl

/-- How many elements of l are greater than x. -/
def cntG (l : List Nat) (x : Nat) : Nat := l.countP fun y => decide (x < y)
/-- The number of inversions. -/
def invL : List Nat → Nat
  | [] => 0
  | x :: r => cntN r x + invL r
theorem cntN_append (l r : List Nat) (x : Nat) : cntN (l ++ r) x = cntN l x + cntN r x := by
  unfold cntN
  rw [List.countP_append]
theorem invL_snoc (x : Nat) : ∀ l, invL (l ++ [x]) = invL l + cntG l x
  | [] => rfl
  | y :: r => by
    rw [List.cons_append, invL, invL_snoc x r, cntN_append, invL]
    have h1 : cntN [x] y = if x < y then 1 else 0 := by rw [cntN_cons]; simp [cntN]
    have h2 : cntG (y :: r) x = cntG r x + if x < y then 1 else 0 := by
      unfold cntG
      rw [List.countP_cons]
      simp
    rw [h1, h2]
    omega
theorem parIn_sg (a : List Nat) (i : Nat) (s : Int) : ∀ k, k ≤ a.length → parIn a i s k = s * sg (cntG (a.take k) (a.getD i 0))
  | 0, _ => by simp [parIn, cntG, sg]
  | k + 1, hk => by
    have e : cntG (a.take (k + 1)) (a.getD i 0) = cntG (a.take k) (a.getD i 0) + if a.getD i 0 < a.getD k 0 then 1 else 0 := by
      unfold cntG
      rw [List.take_succ_eq_append_getElem (by omega), List.countP_append, ← getD_eq (by omega)]
      simp [List.countP_cons]
    rw [parIn, parIn_sg a i s k (by omega), e]
    by_cases h : a.getD i 0 < a.getD k 0
    · rw [if_pos h, if_pos h, sg_succ, Int.mul_neg]
    · rw [if_neg h, if_neg h, Nat.add_zero]
theorem parTo_sg (a : List Nat) : ∀ i, i ≤ a.length → parTo a i = sg (invL (a.take i))
  | 0, _ => rfl
  | i + 1, hi => by
    rw [parTo, parIn_sg a i _ i (by omega), parTo_sg a i (by omega), ← sg_add, List.take_succ_eq_append_getElem (by omega), invL_snoc, getD_eq (by omega)]
theorem par_sg (a : List Nat) : parTo a a.length = sg (invL a) := by
  rw [parTo_sg a a.length (Nat.le_refl _), List.take_length]

/-! The sign of a product. -/
theorem invL_sorted : ∀ {l : List Nat}, Sorted l → invL l = 0
  | [], _ => rfl
  | x :: r, h => by
    have h' := List.pairwise_cons.1 h
    rw [invL, cnt_zero (fun y hy => Nat.le_of_lt (h'.1 y hy)), invL_sorted h'.2]
/-- Whatever the order, the signs of a list and of its image go together. -/
theorem sg_perm (g : Nat → Nat) {l l' : List Nat} (h : l.Perm l') : (∀ x ∈ l, ∀ y ∈ l, g x = g y → x = y) → l.Nodup →
    sg (invL l) * sg (invL (l.map g)) = sg (invL l') * sg (invL (l'.map g)) := by
  induction h with
  | nil => intro _ _; rfl
  | cons x h ih =>
    rename_i l1 l2
    intro hg hn
    rw [List.nodup_cons] at hn
    have e := ih (fun a ha b hb => hg a (by simp [ha]) b (by simp [hb])) hn.2
    rw [List.map_cons, List.map_cons, invL, invL, invL, invL, sg_add, sg_add, sg_add, sg_add, cntN_perm h, cntN_perm (h.map g)]
    generalize sg (cntN l2 x) = p
    generalize sg (cntN (l2.map g) (g x)) = q
    have e1 : p * sg (invL l1) * (q * sg (invL (l1.map g))) = p * q * (sg (invL l1) * sg (invL (l1.map g))) := by
      rw [Int.mul_assoc, Int.mul_assoc, ← Int.mul_assoc (sg (invL l1)), Int.mul_comm (sg (invL l1)) q, Int.mul_assoc q]
    have e2 : p * sg (invL l2) * (q * sg (invL (l2.map g))) = p * q * (sg (invL l2) * sg (invL (l2.map g))) := by
      rw [Int.mul_assoc, Int.mul_assoc, ← Int.mul_assoc (sg (invL l2)), Int.mul_comm (sg (invL l2)) q, Int.mul_assoc q]
    rw [e1, e2, e]
  | swap x y l =>
    intro hg hn
    have hxy : x ≠ y := by
      intro e
      subst e
      simp at hn
    have hgxy : g x ≠ g y := fun e => hxy (hg x (by simp) y (by simp) e)
    have key : ∀ (u v : Nat) (r : List Nat), u ≠ v → sg (invL (u :: v :: r)) = -sg (invL (v :: u :: r)) := by
      intro u v r huv
      have e : ∀ (p q : Nat) (s : List Nat), invL (p :: q :: s) = (if q < p then 1 else 0) + (cntN s p + cntN s q + invL s) := by
        intro p q s
        rw [invL, invL, cntN_cons]
        omega
      rw [e, e, Nat.add_comm (cntN r v) (cntN r u)]
      rcases Nat.lt_or_gt_of_ne huv with h | h
      · rw [if_neg (by omega), if_pos h, Nat.zero_add, Nat.add_comm 1, sg_succ, Int.neg_neg]
      · rw [if_pos h, if_neg (by omega), Nat.zero_add, Nat.add_comm 1, sg_succ]
    rw [List.map_cons, List.map_cons, List.map_cons, List.map_cons, key y x l hxy.symm, key (g y) (g x) (l.map g) (fun e => hgxy e.symm), Int.neg_mul_neg]
  | trans h1 h2 ih1 ih2 =>
    intro hg hn
    rw [ih1 hg hn]
    exact ih2 (fun a ha b hb => hg a (h1.mem_iff.2 ha) b (h1.mem_iff.2 hb)) (h1.nodup hn)
theorem sg_comp {a b : List Nat} (pa : isP a) (pb : isP b) (hl : a.length = b.length) : sg (invL (comp a b)) = sg (invL a) * sg (invL b) := by
  have h := sg_perm (fun x => b.getD x 0) pa.perm (fun x hx y hy e => pb.inj (by have := pa.1 x hx; omega) (by have := pa.1 y hy; omega) e) pa.2
  have e1 : a.map (fun x => b.getD x 0) = comp a b := rfl
  have e2 : (List.range a.length).map (fun x => b.getD x 0) = b := by
    have := range_comp b
    rw [← hl] at this
    exact this
  rw [e1, e2, invL_sorted (range_sorted _)] at h
  have h3 : sg 0 = 1 := rfl
  rw [h3, Int.one_mul] at h
  have h4 := sg_sq (invL a)
  have h5 : sg (invL a) * (sg (invL a) * sg (invL (comp a b))) = sg (invL a) * sg (invL b) := by rw [h]
  rw [← Int.mul_assoc, h4, Int.one_mul] at h5
  exact h5
end Go.Proofs.Ytihpmdfeonphpaa
/- The sum over all permutations is the determinant. -/
namespace Go.Proofs.Ytihpmdfeonphpaa
set_option linter.unusedVariables false
set_option linter.unusedSimpArgs false
set_option linter.unusedSectionVars false
open CR

/-- All permutations of degree n, in lexicographic order. -/
def permsN : Nat → List (List Nat)
  | 0 => [[]]
  | n + 1 => (List.range (n + 1)).flatMap fun j => (permsN n).map fun q => j :: q.map (skip j)
theorem permsN_perm : ∀ {n : Nat} {p : List Nat}, p ∈ permsN n → p.Perm (List.range n)
  | 0, p, h => by simp [permsN] at h; subst h; exact .refl _
  | n + 1, p, h => by
    simp only [permsN, List.mem_flatMap, List.mem_map, List.mem_range] at h
    obtain ⟨j, hj, q, hq, rfl⟩ := h
    have h1 := permsN_perm hq
    have h2 : (q.map (skip j)).Perm ((List.range n).map (skip j)) := h1.map _
    refine ((h2.cons j)).trans ?_
    refine (List.perm_ext_iff_of_nodup ?_ List.nodup_range).2 fun x => ?_
    · refine List.nodup_cons.2 ⟨fun h => ?_, ?_⟩
      · obtain ⟨b, _, e⟩ := List.mem_map.1 h
        exact skip_ne j b e
      · exact (List.nodup_range (n := n)).map _ (fun a b hne he => hne (skip_inj he))
    · simp only [List.mem_cons, List.mem_map, List.mem_range]
      constructor
      · rintro (rfl | ⟨b, hb, rfl⟩)
        · exact hj
        · exact skip_lt hb
      · intro hx
        by_cases e : x = j
        · exact .inl e
        · refine .inr ⟨unskip j x, ?_, skip_unskip e⟩
          unfold unskip; split <;> omega
theorem permsN_length {n : Nat} {p : List Nat} (h : p ∈ permsN n) : p.length = n := by have := (permsN_perm h).length_eq; simpa using this
theorem cntN_skip {q : List Nat} {j n : Nat} (hq : q.Perm (List.range n)) (hj : j ≤ n) : cntN (q.map (skip j)) j = j := by
  unfold cntN
  rw [List.countP_map]
  have e : ((fun y => decide (y < j)) ∘ skip j) = fun y => decide (y < j) := by
    funext y
    simp only [Function.comp, skip]
    grind
  rw [e, hq.countP_eq]
  clear e hq
  induction n with
  | zero => simp; omega
  | succ n ih =>
    rw [List.range_succ, List.countP_append]
    by_cases h : j ≤ n
    · rw [ih h]
      simp
      omega
    · obtain rfl : j = n + 1 := by omega
      have h2 : (List.range n).countP (fun y => decide (y < n + 1)) = n := by
        have : (List.range n).countP (fun y => decide (y < n + 1)) = (List.range n).length := List.countP_eq_length.2 fun x hx => by
          have := List.mem_range.1 hx
          simp; omega
        rw [this, List.length_range]
      rw [h2]
      simp
theorem cntN_skipskip (j x : Nat) (q : List Nat) : cntN (q.map (skip j)) (skip j x) = cntN q x := by
  unfold cntN
  rw [List.countP_map]
  congr 1
  funext y
  simp only [Function.comp, skip]
  grind
theorem invL_skip (j : Nat) : ∀ q : List Nat, invL (q.map (skip j)) = invL q
  | [] => rfl
  | x :: t => by
    show cntN (t.map (skip j)) (skip j x) + invL (t.map (skip j)) = cntN t x + invL t
    rw [cntN_skipskip, invL_skip j t]

section
variable {R : Type} [CR R]
def sumLR : List R → R
  | [] => 0
  | x :: t => x + sumLR t
theorem sumLR_append : ∀ a b : List R, sumLR (a ++ b) = sumLR a + sumLR b
  | [], b => (zero_add _).symm
  | x :: t, b => by
    show x + sumLR (t ++ b) = x + sumLR t + sumLR b
    rw [sumLR_append t b, add_assoc]
theorem sumLR_mul (c : R) : ∀ (l : List R), sumLR (l.map fun x => c * x) = c * sumLR l
  | [] => (mul_zero c).symm
  | x :: t => by
    show c * x + sumLR (t.map fun x => c * x) = c * (x + sumLR t)
    rw [sumLR_mul c t, mul_add]
theorem sumLR_range (f : Nat → List R) : ∀ n, sumLR ((List.range n).flatMap f) = sumN n fun j => sumLR (f j)
  | 0 => rfl
  | n + 1 => by rw [List.range_succ, List.flatMap_append, sumLR_append, sumLR_range f n, sumN_succ]; simp
/-- The product of the entries from row i on. -/
def prodP (M : Mtx R) : Nat → List Nat → R
  | _, [] => 1
  | i, x :: t => M i x * prodP M (i + 1) t
theorem prodP_skip (M : Mtx R) (j : Nat) : ∀ (q : List Nat) (i : Nat), prodP M (i + 1) (q.map (skip j)) = prodP (fun a b => M (a + 1) (skip j b)) i q
  | [], _ => rfl
  | x :: t, i => by
    show M (i + 1) (skip j x) * prodP M (i + 1 + 1) (t.map (skip j)) = M (i + 1) (skip j x) * prodP _ (i + 1) t
    rw [prodP_skip M j t (i + 1)]
def leib (n : Nat) (M : Mtx R) : R := sumLR ((permsN n).map fun p => sgR R (invL p) * prodP M 0 p)
theorem leib_eq : ∀ (n : Nat) (M : Mtx R), leib n M = detR n M
  | 0, M => by
    show sgR R 0 * 1 + 0 = 1
    rw [sgR_zero, one_mul, add_zero]
  | n + 1, M => by
    unfold leib permsN
    rw [List.map_flatMap, sumLR_range]
    refine sumN_congr fun j hj => ?_
    rw [← leib_eq n, List.map_map]
    unfold leib
    rw [← sumLR_mul, ← sumLR_mul, List.map_map, List.map_map]
    congr 1
    refine List.map_congr_left fun q hq => ?_
    show sgR R (cntN (q.map (skip j)) j + invL (q.map (skip j))) * (M 0 j * prodP M (0 + 1) (q.map (skip j))) = sgR R j * (M 0 j * (sgR R (invL q) * prodP _ 0 q))
    rw [cntN_skip (permsN_perm hq) (by omega), invL_skip, prodP_skip, sgR_add]
    ac_rfl
end
theorem sgR_int (m : Nat) : sgR Int m = sg m := rfl
end Go.Proofs.Ytihpmdfeonphpaa
/- More facts of operations in regions that draw their order: function values, minima and maxima of integers, three at once. -/
namespace Go.Proofs.Ytihpmdfeonphpaa
set_option linter.unusedVariables false
set_option linter.unusedSimpArgs false
open Go.RowKit Go.Maps

theorem gives_minI {P : Program} {o : Oper} {a : Act} {w : World} {x y : Operand} {ts : Array TypeId} {m n r : Int} (ho : o.op = .call { callee := .builtin .min, args := #[x, y], argTypes := ts }) (hx : a.eval x = .int .i64 m) (hy : a.eval y = .int .i64 n) (h : min m n = r) : Gives P o a w (.int .i64 r) := by
  have hr : (if n < m then n else m) = r := by
    by_cases h1 : n < m
    · rw [if_pos h1]; omega
    · rw [if_neg h1]; omega
  unfold Gives execOp
  rw [ho]
  simp only [resolve, invoke, builtin, Sem.run_bind, Sem.run_pure, Result.andThen_ok, List.map_toArray, List.map_cons, List.map_nil, hx, hy, run_min_int2, hr]
theorem gives_maxI {P : Program} {o : Oper} {a : Act} {w : World} {x y : Operand} {ts : Array TypeId} {m n r : Int} (ho : o.op = .call { callee := .builtin .max, args := #[x, y], argTypes := ts }) (hx : a.eval x = .int .i64 m) (hy : a.eval y = .int .i64 n) (h : max m n = r) : Gives P o a w (.int .i64 r) := by
  have hr : (if n > m then n else m) = r := by
    by_cases h1 : n > m
    · rw [if_pos h1]; omega
    · rw [if_neg h1]; omega
  unfold Gives execOp
  rw [ho]
  simp only [resolve, invoke, builtin, Sem.run_bind, Sem.run_pure, Result.andThen_ok, List.map_toArray, List.map_cons, List.map_nil, hx, hy, run_max_int2, hr]
theorem gives_makeFunc {P : Program} {o : Oper} {a : Act} {w : World} {fn : Fn} {l : List Operand} {vs : List Value} (ho : o.op = .makeFunc fn #[] l.toArray) (hx : l.map a.eval = vs) : Gives P o a w (.func fn #[] vs.toArray) := by
  subst hx
  unfold Gives execOp
  rw [ho]
  have h : ∀ (fn : Fn) (first cap : Array Value) (w : World), (Instr.makeFunc fn first cap).run P w = .ok (.func fn first cap) w := fun _ _ _ _ => rfl
  simp [h, Result.andThen]
theorem gives_fld {P : Program} {o : Oper} {a : Act} {w : World} {s : TypeId} {fs : Array Field} {f : Field} {x : Operand} {k g off : Nat} (ho : o.op = .fieldAddr s x k) (hs : P.underlying s = some (.struct fs)) (hf : fs[k]? = some f) (hoff : f.offset = off) (hx : a.eval x = .pointer (some ⟨g, 0, none⟩)) (hp : ∀ w, (fieldPlace ⟨g, 0, none⟩ f).run P w = .ok ⟨g, off, none⟩ w) :
    Gives P o a w (.pointer (some ⟨g, off, none⟩)) := by
  subst hoff
  exact gives_fieldAddr ho hs hf hx hp
/-- A function value stored into a cell. -/
theorem wp_storeF {P : Program} {o : Oper} {a : Act} {w : World} {K : Act → World → Prop} {Q : Exit → Act → World → Prop} {ty : TypeId} {x y : Operand} {ad : Addr} {fn : Fn} {f c : Array Value} {old : Value} (ho : o.op = .store ty x y) (h1 : (isAgg ty).run P w = .ok false w) (hsz : (sizeOf ty).run P w = .ok 1 w) (hx : a.eval x = .pointer (some ad)) (hy : a.eval y = .func fn f c)
    (hc : w.cell? ad = some old) (hf : w.frozen? ad = false) (hK : K (a.put o.dst undef) (w.setCell ad (.func fn f c))) : o.wp P a w K Q := by
  unfold Oper.wp execOp
  rw [ho]
  simp only [hx, hy, Instr.storeAt, Instr.sureAddr, Sem.run_bind, Sem.run_pure, Result.andThen_ok]
  have e0 : ad.add 0 = ad := by unfold Addr.add; simp
  simp [storeVar, Sem.run_bind, h1, hsz, Value.cells, storeCells, run_store_func, stored, e0, hc, hf, Result.andThen]
  exact hK
/-- A map stored into a cell. -/
theorem wp_storeM {P : Program} {o : Oper} {a : Act} {w : World} {K : Act → World → Prop} {Q : Exit → Act → World → Prop} {ty : TypeId} {x y : Operand} {ad : Addr} {r : Option Nat} {old : Value} (ho : o.op = .store ty x y) (h1 : (isAgg ty).run P w = .ok false w) (hsz : (sizeOf ty).run P w = .ok 1 w) (hx : a.eval x = .pointer (some ad)) (hy : a.eval y = .map r)
    (hc : w.cell? ad = some old) (hf : w.frozen? ad = false) (hK : K (a.put o.dst undef) (w.setCell ad (.map r))) : o.wp P a w K Q := by
  unfold Oper.wp execOp
  rw [ho]
  simp only [hx, hy, Instr.storeAt, Instr.sureAddr, Sem.run_bind, Sem.run_pure, Result.andThen_ok]
  have e0 : ad.add 0 = ad := by unfold Addr.add; simp
  simp [storeVar, Sem.run_bind, h1, hsz, Value.cells, storeCells, run_store_map, stored, e0, hc, hf, Result.andThen]
  exact hK
/-- One of three, written out. -/
theorem wpAnyH_3 {P : Program} {ops : Array Oper} {Q : Exit → Act → World → Prop} {S : World → Prop} {md : Region.Mode} (i k m : Nat) {d d' d'' : Option Tmp} {op op' op'' : Op} {ty ty' ty'' : TypeId} {pos pos' pos'' : String} {af af' af'' : Array Edge} {fuel : Nat} {listed : Array Bool} {a : Act} {w : World}
    (ho : ops[i]? = some ⟨d, op, ty, pos, af, none⟩) (ho' : ops[k]? = some ⟨d', op', ty', pos', af', none⟩) (ho'' : ops[m]? = some ⟨d'', op'', ty'', pos'', af'', none⟩) (hr : Region.ready md ops listed = [i, k, m])
    (h : Oper.wp P ⟨d, op, ty, pos, af, none⟩ a w (fun a' w' => S w' ∧ wpAnyH P md ops Q S fuel (listed.setIfInBounds i true) a' w') Q) (h' : Oper.wp P ⟨d', op', ty', pos', af', none⟩ a w (fun a' w' => S w' ∧ wpAnyH P md ops Q S fuel (listed.setIfInBounds k true) a' w') Q)
    (h'' : Oper.wp P ⟨d'', op'', ty'', pos'', af'', none⟩ a w (fun a' w' => S w' ∧ wpAnyH P md ops Q S fuel (listed.setIfInBounds m true) a' w') Q) : wpAnyH P md ops Q S (fuel + 1) listed a w := by
  refine wpAnyH_all hr (by simp) fun j hj => ?_
  unfold wpOp
  rcases List.mem_cons.1 hj with rfl | hj
  · rw [ho]; simp only [show Region.wanted ⟨d, op, ty, pos, af, none⟩ (yielded ops a.tmps) = true from rfl, if_true]; exact .inl h
  rcases List.mem_cons.1 hj with rfl | hj
  · rw [ho']; simp only [show Region.wanted ⟨d', op', ty', pos', af', none⟩ (yielded ops a.tmps) = true from rfl, if_true]; exact .inl h'
  · obtain rfl : j = m := by simpa using hj
    rw [ho'']; simp only [show Region.wanted ⟨d'', op'', ty'', pos'', af'', none⟩ (yielded ops a.tmps) = true from rfl, if_true]; exact .inl h''
end Go.Proofs.Ytihpmdfeonphpaa
/- A slice of integers that came in as an argument. -/
namespace Go.Proofs.Ytihpmdfeonphpaa
set_option linter.unusedVariables false
set_option linter.unusedSimpArgs false
open Go.RowKit

theorem IL.of_row {W : World} {a : Addr} {len cap : Nat} {zs : List Int} (hl : len ≤ cap) (hz : zs.length = cap) (hr : cap * 8 ≤ 140737488351232) (hcell : ∀ i, i < zs.length → W.cell? (a.add i) = some (.int .i64 (zs.getD i 0))) : IL W (some a) len (zs.take len) := by
  refine ⟨by rw [List.length_take]; omega, by omega, fun h0 => ⟨a, rfl, ?_, fun j hj => ?_⟩⟩
  · have := World.block_lt_of_cell? W _ (hcell 0 (by omega))
    rwa [block_of_add] at this
  · rw [hcell j (by omega)]
    simp [List.getD, List.getElem?_take, hj]
end Go.Proofs.Ytihpmdfeonphpaa
