/- append on slices of integers that the call itself made. -/
import Derived.Test.YtnpdlfnhpghkmaaLib
import Derived.Maps.AppendAt
import Derived.Deep.AppendLies
import Derived.Deep.RegionLaw
import Derived.RegionTactic
import Derived.OwnWalk
namespace Go.Proofs.Ytnpdlfnhpghkmaa
set_option linter.unusedVariables false
set_option linter.unusedSimpArgs false
open Go.RowKit

/-- What append leaves: the new slice, what turned, and where the new slice lies. -/
structure Appended (w : World) (base : Nat) (A : Option Addr) (n c : Nat) (zs : List Int) (A' : Option Addr) (c' : Nat) (w' : World) : Prop where
  own : OwnI w' base A' n c' zs
  grown : w.grownBy w' (Value.slice A n c).ownBlock
  lies : (Value.slice A' n c').ownBlock = (Value.slice A n c).ownBlock ∨ (Value.slice A' n c').ownBlock = some w.heap.size

theorem ownBlock_len (A : Option Addr) (n m c d : Nat) : (Value.slice A n c).ownBlock = (Value.slice A m d).ownBlock := by cases A <;> rfl

section
variable {P : Program} (w : World)

theorem run_append_int (base : Nat) (t ty : TypeId) (i : TypeInfo) (ht : P.underlying t = some (.slice 3)) (hi : P.info? 3 = some i) (hz : i.zero = some (.int .i64 0)) (hsize : i.size = 1) (hby : i.bytes = 8)
    (A : Option Addr) (n c : Nat) (xs : List Int) (hown : OwnI w base A n c xs) (B : Option Addr) (m d : Nat) (ys : List Int) (hb : IL w B m ys)
    (hs : n + m ≤ 17592186044416) (hbase : base ≤ w.heap.size) :
    ∃ A' c' w', (Builtin.append_ #[t, t] ty #[.slice A n c, .slice B m d]).run P w = .ok (.slice A' (n + m) c') w' ∧ Appended w base A (n + m) c (xs ++ ys) A' c' w' := by
  rcases B with _ | ad
  · have hm : m = 0 := by
      rcases Nat.eq_zero_or_pos m with h0 | h0
      · exact h0
      · obtain ⟨ad, h, _⟩ := hb.mem h0
        cases h
    subst hm
    obtain rfl : ys = [] := List.eq_nil_of_length_eq_zero hb.len
    refine ⟨A, c, w, ?_, ?_⟩
    · rcases hown.own.2 with ⟨hv, h0⟩ | ⟨g, cap, cur, hv, _, _, hnc, _⟩
      · simp only [Value.slice.injEq] at hv
        obtain ⟨rfl, rfl, rfl⟩ := hv
        simp [Builtin.append_, run_underlying ht, sizeOf, typeInfo, hi, Builtin.lenOf, Builtin.firstCells]
      · simp only [Value.slice.injEq, true_and] at hv
        obtain ⟨rfl, rfl⟩ := hv
        simp [Builtin.append_, run_underlying ht, sizeOf, typeInfo, hi, Builtin.lenOf, Builtin.firstCells, hnc, storeCells]
    · exact ⟨by simpa using hown, World.grownBy.refl w _, .inl rfl⟩
  · have hl := hb.len
    have hcells : ∀ j u, (ys.map (Value.int .i64))[j]? = some u → w.cell? (ad.add j) = some u := by
      intro j u hu
      have hj : j < m := by
        have := (List.getElem?_eq_some_iff.1 hu).1
        simpa [hl] using this
      obtain ⟨ad', h, hc⟩ := hb.at_ hj
      injection h with h
      subst h
      rw [hc, ← hu, List.getElem?_map, List.getElem?_eq_getElem (by omega)]
      simp [List.getD, List.getElem?_eq_getElem (show j < ys.length by omega)]
    obtain ⟨v', w', hrun, h2, h3, _, h5⟩ := run_append_own_at (P := P) w base t ty 3 i (.int .i64 0) 1 8 ht hi hz hsize hby rfl (by omega) (.slice A n c) n _ hown.own ad m d (ys.map (Value.int .i64))
      (by simp [hl]) hcells (ints_oneCell _ _) (by simp only [maxLen]; omega) (by omega) hbase
    have hv : ∃ A' c', v' = .slice A' (n + m) c' := by
      rcases h2.2 with ⟨rfl, h0⟩ | ⟨g, cap, cur, rfl, _⟩
      · exact ⟨none, 0, by rw [h0]⟩
      · exact ⟨_, _, rfl⟩
    obtain ⟨A', c', rfl⟩ := hv
    refine ⟨A', c', w', hrun, ⟨?_, hs⟩, ?_, ?_⟩
    · rw [List.map_append]; exact h2
    · rw [ownBlock_len A (n + m) n c c]; exact h3
    · rw [ownBlock_len A (n + m) n c c]; exact h5

theorem wp_append_int {o : Oper} {a : Act} {K : Act → World → Prop} {Q : Exit → Act → World → Prop} (s x : Operand) (t : TypeId)
    (ho : o.op = .call { callee := .builtin .append, args := #[s, x], argTypes := #[t, t] })
    (base : Nat) (i : TypeInfo) (ht : P.underlying t = some (.slice 3)) (hi : P.info? 3 = some i) (hz : i.zero = some (.int .i64 0)) (hsize : i.size = 1) (hby : i.bytes = 8)
    (A : Option Addr) (n c : Nat) (xs : List Int) (hs : a.eval s = .slice A n c) (hown : OwnI w base A n c xs) (B : Option Addr) (m d : Nat) (ys : List Int) (hx : a.eval x = .slice B m d) (hb : IL w B m ys)
    (hsm : n + m ≤ 17592186044416) (hbase : base ≤ w.heap.size)
    (h : ∀ A' c' w', Appended w base A (n + m) c (xs ++ ys) A' c' w' → K (a.put o.dst (.slice A' (n + m) c')) w') : o.wp P a w K Q := by
  obtain ⟨A', c', w', hrun, h2⟩ := run_append_int (P := P) w base t o.type i ht hi hz hsize hby A n c xs hown B m d ys hb hsm hbase
  unfold Oper.wp execOp
  simp only [ho, resolve, invoke, builtin, Sem.run_bind, Sem.run_pure, Result.andThen_ok, List.map_toArray, List.map_cons, List.map_nil, hs, hx, hrun]
  exact h A' c' w' h2

theorem wpList_append_int {ops : Array Oper} {rest : List Oper} {o : Oper} {a : Act} {Q : Exit → Act → World → Prop} (hgd : o.guard = none) (s x : Operand) (t : TypeId)
    (ho : o.op = .call { callee := .builtin .append, args := #[s, x], argTypes := #[t, t] })
    (base : Nat) (i : TypeInfo) (ht : P.underlying t = some (.slice 3)) (hi : P.info? 3 = some i) (hz : i.zero = some (.int .i64 0)) (hsize : i.size = 1) (hby : i.bytes = 8)
    (A : Option Addr) (n c : Nat) (xs : List Int) (hs : a.eval s = .slice A n c) (hown : OwnI w base A n c xs) (B : Option Addr) (m d : Nat) (ys : List Int) (hx : a.eval x = .slice B m d) (hb : IL w B m ys)
    (hsm : n + m ≤ 17592186044416) (hbase : base ≤ w.heap.size)
    (h : ∀ A' c' w', Appended w base A (n + m) c (xs ++ ys) A' c' w' → wpList P ops Q rest (a.put o.dst (.slice A' (n + m) c')) w') : wpList P ops Q (o :: rest) a w :=
  wpList_plain hgd fun _ hK => wp_append_int w s x t ho base i ht hi hz hsize hby A n c xs hs hown B m d ys hx hb hsm hbase fun A' c' w' h2 => hK _ _ (h A' c' w' h2)

theorem step_append_int {ops : Array Oper} {o : Oper} {a : Act} {K : Act → World → Prop} {Q : Exit → Act → World → Prop} {E : Prop} (hgd : o.guard = none) (s x : Operand) (t : TypeId)
    (ho : o.op = .call { callee := .builtin .append, args := #[s, x], argTypes := #[t, t] })
    (base : Nat) (i : TypeInfo) (ht : P.underlying t = some (.slice 3)) (hi : P.info? 3 = some i) (hz : i.zero = some (.int .i64 0)) (hsize : i.size = 1) (hby : i.bytes = 8)
    (A : Option Addr) (n c : Nat) (xs : List Int) (hs : a.eval s = .slice A n c) (hown : OwnI w base A n c xs) (B : Option Addr) (m d : Nat) (ys : List Int) (hx : a.eval x = .slice B m d) (hb : IL w B m ys)
    (hsm : n + m ≤ 17592186044416) (hbase : base ≤ w.heap.size)
    (h : ∀ A' c' w', Appended w base A (n + m) c (xs ++ ys) A' c' w' → K (a.put o.dst (.slice A' (n + m) c')) w') :
    if Region.wanted o (yielded ops a.tmps) = true then Oper.wp P o a w K Q else E := by
  have hw : Region.wanted o (yielded ops a.tmps) = true := by simp [Region.wanted, hgd]
  rw [if_pos hw]
  exact wp_append_int w s x t ho base i ht hi hz hsize hby A n c xs hs hown B m d ys hx hb hsm hbase h
end

section
variable {w w' : World} {base : Nat} {A : Option Addr} {n c : Nat} {xs : List Int}
theorem OwnI.nil_ (w : World) (base : Nat) : OwnI w base none 0 0 [] := ⟨World.ownsRow_nil _ _ _ _, by omega⟩
theorem OwnI.alloc (h : OwnI w base A n c xs) (o : Obj) : OwnI (w.alloc o) base A n c xs := ⟨h.own.alloc o, h.small⟩
theorem OwnI.drew (h : OwnI w base A n c xs) : OwnI w.drew base A n c xs := ⟨h.own, h.small⟩
theorem OwnI.drewN (h : OwnI w base A n c xs) (k : Nat) : OwnI (w.drewN k) base A n c xs := ⟨h.own, h.small⟩
theorem IL.alloc (h : IL w A n xs) (o : Obj) : IL (w.alloc o) A n xs := h.below ((Below.refl _ _).alloc (Nat.le_refl _) o)
theorem IL.drew (h : IL w A n xs) : IL w.drew A n xs := h.below (Below.refl _ _).drew
theorem IL.drewN (h : IL w A n xs) (k : Nat) : IL (w.drewN k) A n xs := h.below (below_drewN (Below.refl _ _) k)
/-- A literal slice. -/
theorem OwnI.lit (w : World) (xs : List Int) (hb : base ≤ w.heap.size) (hs : xs.length ≤ 17592186044416) {cs : Array Value} (hc : cs = (xs.map (Value.int .i64)).toArray) {m d : Nat} (hm : xs.length = m) (hd : m = d) :
    OwnI (w.alloc (.cells cs 3)) base (some ⟨w.heap.size, 0, none⟩) m d xs := by
  subst hc hm hd
  refine ⟨?_, hs⟩
  have := World.ownsRow_lit (base := base) (e := 3) (size := 1) w (xs.map (Value.int .i64)).toArray xs.length hb (by unfold maxLen; omega) (by simp)
  simpa using this
theorem IL.lit (w : World) (xs : List Int) (hs : xs.length ≤ 17592186044416) {cs : Array Value} (hc : cs = (xs.map (Value.int .i64)).toArray) {m : Nat} (hm : xs.length = m) :
    IL (w.alloc (.cells cs 3)) (some ⟨w.heap.size, 0, none⟩) m xs := (OwnI.lit (base := 0) w xs (Nat.zero_le _) hs hc hm rfl).il
/-- A row is kept where another one was written. -/
theorem OwnI.kept (h : OwnI w base A n c xs) {row : Option Nat} (hg : w.grownBy w' row) (hne : (Value.slice A n c).ownBlock = none ∨ (Value.slice A n c).ownBlock ≠ row) : OwnI w' base A n c xs := ⟨h.own.kept hg hne, h.small⟩
theorem OwnI.cap (h : OwnI w base A n c xs) : n ≤ c := by
  rcases h.own.2 with ⟨hv, h0⟩ | ⟨g, cap, cur, hv, _, _, hnc, _⟩
  · omega
  · simp only [Value.slice.injEq, true_and] at hv
    omega
theorem OwnI.lt (h : OwnI w base A n c xs) : ∀ k, (Value.slice A n c).ownBlock = some k → base ≤ k ∧ k < w.heap.size := h.own.lt
end
section
variable {w w' : World} {base : Nat} {A : Option Addr} {n c : Nat} {xs : List Int}
theorem IL.pre {k : Nat} (h : IL w A n xs) (hk : k ≤ n) : IL w A k (xs.take k) := by
  have hl := h.len
  refine ⟨by rw [List.length_take]; omega, by have := h.small; omega, fun h0 => ?_⟩
  obtain ⟨ad, e, hlt, hc⟩ := h.mem (by omega)
  refine ⟨ad, e, hlt, fun j hj => ?_⟩
  rw [hc j (by omega)]
  simp [List.getD, List.getElem?_take, hj]
theorem IL.tail {g o k d : Nat} (h : IL w (some ⟨g, o, none⟩) n xs) (hk : k ≤ n) (hd : n ≤ d) : IL w (if d = k then some ⟨g, o, none⟩ else some ⟨g, o + k, none⟩) (n - k) (xs.drop k) := by
  have hl := h.len
  refine ⟨by rw [List.length_drop]; omega, by have := h.small; omega, fun h0 => ?_⟩
  obtain ⟨ad, e, hlt, hc⟩ := h.mem (by omega)
  injection e with e
  subst e
  rw [if_neg (by omega)]
  refine ⟨_, rfl, hlt, fun j hj => ?_⟩
  have e2 := hc (k + j) (by omega)
  rw [Addr.add_lit] at e2 ⊢
  rw [Nat.add_assoc, e2]
  simp [List.getD, List.getElem?_drop]
end

end Go.Proofs.Ytnpdlfnhpghkmaa
