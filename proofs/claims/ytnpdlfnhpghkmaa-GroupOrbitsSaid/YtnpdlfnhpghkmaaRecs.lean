/- Slices of records (elements of more than one cell) that the call itself made; regions: integer operations, building, appending. -/
import Derived.Test.YtnpdlfnhpghkmaaChain
namespace Go.Proofs.Ytnpdlfnhpghkmaa
open Go.RowKit Go.Maps

/-- The cells of records, one after the other. -/
def cellsR (rs : List (Array Value)) : List Value := rs.flatMap fun r => r.toList
theorem cellsR_append (a b : List (Array Value)) : cellsR (a ++ b) = cellsR a ++ cellsR b := by simp [cellsR]
theorem cellsR_length {m : Nat} : ∀ rs : List (Array Value), (∀ r ∈ rs, r.size = m) → (cellsR rs).length = rs.length * m
  | [], _ => by simp [cellsR]
  | r :: rs, h => by
    have := cellsR_length rs fun r hr => h r (by simp [hr])
    have h1 := h r (by simp)
    unfold cellsR at this ⊢
    rw [List.flatMap_cons, List.length_append, this, List.length_cons, Array.length_toList, h1, Nat.succ_mul]
    omega
theorem cellsR_get {m : Nat} : ∀ (rs : List (Array Value)) (j k : Nat), (∀ r ∈ rs, r.size = m) → k < m → (cellsR rs)[j * m + k]? = (rs[j]?).bind fun r => r[k]?
  | [], j, k, _, _ => by simp [cellsR]
  | r :: rs, 0, k, h, hk => by
    have h1 := h r (by simp)
    unfold cellsR
    rw [List.flatMap_cons, List.getElem?_append_left (by rw [Array.length_toList, h1]; omega)]
    simp
  | r :: rs, j + 1, k, h, hk => by
    have := cellsR_get rs j k (fun r hr => h r (by simp [hr])) hk
    have h1 := h r (by simp)
    unfold cellsR at this ⊢
    rw [List.flatMap_cons, List.getElem?_append_right (by rw [Array.length_toList, h1, Nat.succ_mul]; omega), Array.length_toList, h1, show (j + 1) * m + k - m = j * m + k by rw [Nat.succ_mul]; omega, this]
    simp

/-- A slice of records of type T, of m cells each, of the call's own. -/
structure OwnR (T m : Nat) (w : World) (base : Nat) (A : Option Addr) (n c : Nat) (rs : List (Array Value)) : Prop where
  own : w.ownsRow base T m (.slice A n c) n (cellsR rs)
  size : ∀ r ∈ rs, r.size = m
  len : rs.length = n
  small : n ≤ 1000000
section
variable {T m : Nat} {w w' : World} {base n c : Nat} {A : Option Addr} {rs : List (Array Value)}
theorem OwnR.nil_ (T m : Nat) (w : World) (base : Nat) : OwnR T m w base none 0 0 [] := ⟨World.ownsRow_nil _ _ _ _, by simp, rfl, by omega⟩
theorem OwnR.below (h : OwnR T m w base A n c rs) (hb : Below w.heap.size w w') : OwnR T m w' base A n c rs := by
  refine ⟨⟨h.own.1, ?_⟩, h.size, h.len, h.small⟩
  rcases h.own.2 with h2 | ⟨g, cap, cur, hv, hg, hh, r⟩
  · exact .inl h2
  · exact .inr ⟨g, cap, cur, hv, hg, (hb.block g (Blk.lt (w := w) (t := T) (cs := cur) hh)).trans hh, r⟩
theorem OwnR.kept (h : OwnR T m w base A n c rs) {row : Option Nat} (hg : w.grownBy w' row) (hne : (Value.slice A n c).ownBlock = none ∨ (Value.slice A n c).ownBlock ≠ row) : OwnR T m w' base A n c rs := ⟨h.own.kept hg hne, h.size, h.len, h.small⟩
theorem OwnR.block (h : OwnR T m w base A n c rs) : ∀ k, (Value.slice A n c).ownBlock = some k → base ≤ k ∧ k < w.heap.size ∧ ∃ cs, Blk w k T cs := by
  intro k hk
  rcases h.own.2 with ⟨hv, _⟩ | ⟨g, cap, cur, hv, hb, hh, _⟩
  · rw [hv] at hk; cases hk
  · rw [hv] at hk
    injection hk with hk
    subst hk
    exact ⟨hb, Blk.lt (w := w) (t := T) (cs := cur) hh, cur, hh⟩
theorem OwnR.ne_ {g : Nat} {t : TypeId} {cs : Array Value} (h : OwnR T m w base A n c rs) (hb : Blk w g t cs) (ht : t ≠ T) : some g ≠ (Value.slice A n c).ownBlock := by
  intro e
  obtain ⟨_, _, cs', h'⟩ := h.block g e.symm
  unfold Blk at hb h'
  rw [hb] at h'
  injection h' with h'
  injection h' with _ h'
  exact ht h'
theorem OwnR.ne_dict {P : Program} {k : TypeId} {b s : Nat} {f : Value → Option Value} (h : OwnR T m w base A n c rs) (h' : Dict P k w b s f) : some b ≠ (Value.slice A n c).ownBlock := by
  intro e
  obtain ⟨_, _, cs', h2⟩ := h.block b e.symm
  exact blk_ne_dict h2 h' rfl
/-- Another block was written. -/
theorem OwnR.setRow (h : OwnR T m w base A n c rs) {g : Nat} {t : TypeId} {cs ds : Array Value} (hb : Blk w g t cs) (ht : t ≠ T) : OwnR T m (w.setRow g ds) base A n c rs := by
  refine ⟨⟨h.own.1, ?_⟩, h.size, h.len, h.small⟩
  rcases h.own.2 with h2 | ⟨g', cap, cur, hv, hg, hh, r⟩
  · exact .inl h2
  · refine .inr ⟨g', cap, cur, hv, hg, (setRow_other w g g' ds ?_).trans hh, r⟩
    rintro rfl
    unfold Blk at hb
    rw [hb] at hh
    injection hh with hh
    injection hh with _ hh
    exact ht hh
/-- Record j lies in memory. -/
theorem OwnR.at_ (h : OwnR T m w base A n c rs) {j : Nat} (hj : j < n) : ∃ g, A = some ⟨g, 0, none⟩ ∧ w.rangeAt g (j * m) (rs.getD j #[]).toList := by
  have hl := h.len
  rcases h.own.2 with ⟨_, h0⟩ | ⟨g, cap, cur, hv, _, hh, _⟩
  · omega
  · have hA : A = some ⟨g, 0, none⟩ := by injection hv
    subst hA
    refine ⟨g, rfl, fun k v hk => ?_⟩
    have e : rs.getD j #[] = rs[j] := by simp [List.getD, List.getElem?_eq_getElem (by omega : j < rs.length)]
    have hkm : k < m := by
      have := (List.getElem?_eq_some_iff.1 hk).1
      rw [Array.length_toList, e, h.size _ (List.getElem_mem _)] at this
      exact this
    have hlt : j * m + k < n * m := by
      have : j * m + m ≤ n * m := by rw [← Nat.succ_mul]; exact Nat.mul_le_mul_right m hj
      omega
    have hc := h.own.cellAt (j * m + k) hlt
    rw [hc, cellsR_get rs j k h.size hkm]
    rw [List.getElem?_eq_getElem (by omega : j < rs.length)]
    simp only [Option.bind_some]
    rw [e] at hk
    simpa using hk
theorem OwnR.range {g j : Nat} (h : OwnR T m w base (some ⟨g, 0, none⟩) n c rs) (hj : j < n) : w.rangeAt g (j * m) (rs.getD j #[]).toList := by
  obtain ⟨g', e, hr⟩ := h.at_ hj
  injection e with e
  injection e with e
  subst e
  exact hr
theorem OwnR.some_ (h : OwnR T m w base A n c rs) (hn : 0 < n) : ∃ g, A = some ⟨g, 0, none⟩ := by
  obtain ⟨g, e, _⟩ := h.at_ hn
  exact ⟨g, e⟩
end

structure AppendedR (T m : Nat) (w : World) (base : Nat) (A : Option Addr) (n c k : Nat) (rs : List (Array Value)) (A' : Option Addr) (c' : Nat) (w' : World) : Prop where
  own : OwnR T m w' base A' (n + k) c' rs
  grown : w.grownBy w' (Value.slice A n c).ownBlock
  lies : (Value.slice A' (n + k) c').ownBlock = (Value.slice A n c).ownBlock ∨ (Value.slice A' (n + k) c').ownBlock = some w.heap.size

/-- k records, which lie in a block of their own, are appended. -/
theorem run_append_recs {P : Program} {T m : Nat} (w : World) (base : Nat) (t ty : TypeId) (i0 : TypeInfo) (z : Value) (bytes : Nat) (ht : P.underlying t = some (.slice T)) (hi : P.info? T = some i0) (hz : i0.zero = some z) (hsz : i0.size = m) (hby : i0.bytes = bytes) (hzs : z.cells.size = m) (hm : 0 < m) (hm2 : bytes ≤ 1000)
    (A : Option Addr) (n c : Nat) (rs : List (Array Value)) (hown : OwnR T m w base A n c rs) (g k d : Nat) (hk : 0 < k) (news : List (Array Value)) (cs : Array Value) (hu : Blk w g T cs) (hcs : cs.toList = cellsR news) (hnl : news.length = k) (hns : ∀ r ∈ news, r.size = m) (h1 : ∀ u ∈ cellsR news, u.oneCell' = true)
    (hs : n + k ≤ 1000000) (hbase : base ≤ w.heap.size) :
    ∃ A' c' w', (Builtin.append_ #[t, t] ty #[.slice A n c, .slice (some ⟨g, 0, none⟩) k d]).run P w = .ok (.slice A' (n + k) c') w' ∧ AppendedR T m w base A n c k (rs ++ news) A' c' w' := by
  have hcells : ∀ j v, (cellsR news)[j]? = some v → w.cell? ((⟨g, 0, none⟩ : Addr).add j) = some v := by
    intro j v hv
    rw [add_zero_block, hu.cell j]
    rw [← hcs] at hv
    simpa using hv
  have hle : (n + k) * bytes ≤ 1000000 * 1000 := Nat.mul_le_mul hs hm2
  obtain ⟨v', w', hrun, h2, h3, _, h5⟩ := run_append_own_at (P := P) w base t ty T i0 _ m bytes ht hi hz hsz hby hzs hm (.slice A n c) n _ hown.own ⟨g, 0, none⟩ k d (cellsR news)
    (by rw [cellsR_length news hns, hnl]) hcells h1 (by simp only [maxLen]; omega) (by omega) hbase
  have hv : ∃ A' c', v' = .slice A' (n + k) c' := by
    rcases h2.2 with ⟨rfl, h0⟩ | ⟨g, cap, cur, rfl, _⟩
    · omega
    · exact ⟨_, _, rfl⟩
  obtain ⟨A', c', rfl⟩ := hv
  refine ⟨A', c', w', hrun, ⟨⟨?_, fun r hr => ?_, by rw [List.length_append, hown.len, hnl], hs⟩, h3, h5⟩⟩
  · rw [cellsR_append]; exact h2
  · rcases List.mem_append.1 hr with hr | hr
    · exact hown.size r hr
    · exact hns r hr

/-! ### operations of regions -/
section
variable {P : Program} {o : Oper} {a : Act} {w : World} {K : Act → World → Prop} {Q : Exit → Act → World → Prop}
theorem gives_add {x y : Operand} {ty : TypeId} {m k z : Int} (ho : o.op = .binOp .add 3 x y ty) (hx : a.eval x = .int .i64 m) (hy : a.eval y = .int .i64 k) (hz : wrap64 (m + k) = z) : Gives P o a w (.int .i64 z) := by
  subst hz
  unfold Gives execOp
  rw [ho]
  simp [hx, hy, eqGuard, binOp, Op.intArith, IntKind.wrap_i64, Sem.run_bind, Result.andThen]
  unfold wrap64
  omega
theorem gives_sub {x y : Operand} {ty : TypeId} {m k z : Int} (ho : o.op = .binOp .sub 3 x y ty) (hx : a.eval x = .int .i64 m) (hy : a.eval y = .int .i64 k) (hz : wrap64 (m - k) = z) : Gives P o a w (.int .i64 z) := by
  subst hz
  unfold Gives execOp
  rw [ho]
  simp [hx, hy, eqGuard, binOp, Op.intArith, IntKind.wrap_i64, Sem.run_bind, Result.andThen]
  unfold wrap64
  omega
theorem gives_neg {x : Operand} {ty : TypeId} {m z : Int} (ho : o.op = .unOp .neg ty x) (hx : a.eval x = .int .i64 m) (hz : wrap64 (0 - m) = z) : Gives P o a w (.int .i64 z) := by
  subst hz
  unfold Gives execOp
  rw [ho]
  simp [hx, Op.unary, Op.intArith, IntKind.wrap_i64, Sem.run_bind, Result.andThen]
  unfold wrap64
  omega
theorem gives_not {x : Operand} {ty : TypeId} {b : Bool} (ho : o.op = .unOp .not ty x) (hx : a.eval x = .bool b) : Gives P o a w (.bool (!b)) := by
  unfold Gives execOp
  rw [ho]
  simp [hx, Op.unary, Sem.run_bind, Result.andThen]
theorem gives_build {t : TypeId} {l : List (Nat × Operand)} {cells : Array Value} (vs : List (Nat × Value)) (ho : o.op = .build t l.toArray) (hv : (l.map fun (i, x) => (i, a.eval x)) = vs) (hb : P.built t vs = some cells) : Gives P o a w (.agg cells) := by
  subst hv
  unfold Gives execOp
  rw [ho]
  have e : ((l.toArray.map fun (i, x) => (i, a.eval x)).toList) = l.map fun (i, x) => (i, a.eval x) := by simp
  have := run_build (P := P) w t (l.toArray.map fun (i, x) => (i, a.eval x)) cells (by rw [e]; exact hb)
  simp only [Sem.run_bind, this, Result.andThen_ok, Sem.run_pure]
theorem wp_buildSlice_at {t e : TypeId} {len : Nat} {l : List (Nat × Operand)} {cells : Array Value} (ie : TypeInfo) (z : Value) (m : Nat) (vs : List (Nat × Value)) (ho : o.op = .buildSlice t len l.toArray)
    (hu : P.underlying t = some (.slice e)) (hie : P.info? e = some ie) (hz : ie.zero = some z) (hm : ie.size = m) (hsmall : ¬ len * m > 2 ^ 24) (hpos : ¬ len * m = 0) (hv : (l.map fun (i, x) => (i, a.eval x)) = vs)
    (hf : Instr.fill (fun i => some (i * m, m)) ((Array.range (len * m)).map (z.cells[· % z.cells.size]!)) vs = some cells)
    (h : K (a.put o.dst (.slice (some ⟨w.heap.size, 0, none⟩) len len)) (w.alloc (.cells cells e))) : o.wp P a w K Q := by
  subst hm
  subst hv
  exact wp_buildSlice t e len _ ho cells ie z hu hie hz hsmall hpos (by simpa using hf) h
theorem wp_append_recs {T m : Nat} (s x : Operand) (t : TypeId) (ho : o.op = .call { callee := .builtin .append, args := #[s, x], argTypes := #[t, t] })
    (base : Nat) (i0 : TypeInfo) (z : Value) (bytes : Nat) (ht : P.underlying t = some (.slice T)) (hi : P.info? T = some i0) (hz : i0.zero = some z) (hsz : i0.size = m) (hby : i0.bytes = bytes) (hzs : z.cells.size = m) (hm : 0 < m) (hm2 : bytes ≤ 1000)
    (A : Option Addr) (n c : Nat) (rs : List (Array Value)) (hs : a.eval s = .slice A n c) (hown : OwnR T m w base A n c rs) (g k d : Nat) (hx : a.eval x = .slice (some ⟨g, 0, none⟩) k d) (hk : 0 < k) (news : List (Array Value)) (cs : Array Value) (hu : Blk w g T cs) (hcs : cs.toList = cellsR news) (hnl : news.length = k) (hns : ∀ r ∈ news, r.size = m) (h1 : ∀ u ∈ cellsR news, u.oneCell' = true)
    (hsm : n + k ≤ 1000000) (hbase : base ≤ w.heap.size)
    (h : ∀ A' c' w', AppendedR T m w base A n c k (rs ++ news) A' c' w' → K (a.put o.dst (.slice A' (n + k) c')) w') : o.wp P a w K Q := by
  obtain ⟨A', c', w', hrun, h2⟩ := run_append_recs w base t o.type i0 z bytes ht hi hz hsz hby hzs hm hm2 A n c rs hown g k d hk news cs hu hcs hnl hns h1 hsm hbase
  unfold Oper.wp execOp
  simp only [ho, resolve, invoke, builtin, Sem.run_bind, Sem.run_pure, Result.andThen_ok, List.map_toArray, List.map_cons, List.map_nil, hs, hx, hrun]
  exact h A' c' w' h2
end
end Go.Proofs.Ytnpdlfnhpghkmaa
