/- permgroup.element: identity, elementOf, then, inverse. -/
import Derived.Test.YtnpdlfnhpghkmaaGroup
import Derived.Test.YtnpdlfnhpghkmaaBase
import Derived.Deep.MidRow
import Derived.Deep.WholeRow
import Derived.Laws.CopyOwn
namespace Go.Proofs.Ytnpdlfnhpghkmaa
open Go.RowKit

/-- The nine cells of an element. -/
def elA (p : List Nat) : Array Value := ((List.range 9).map fun j : Nat => Value.int .u8 ((p.getD j 0 : Nat) : Int)).toArray
theorem elA_size (p : List Nat) : (elA p).size = 9 := by simp [elA]
theorem elA_get (p : List Nat) (j : Nat) (hj : j < 9) : (elA p)[j]? = some (.int .u8 ((p.getD j 0 : Nat) : Int)) := by
  simp [elA, hj]
theorem elA_set (p : List Nat) (hl : p.length = 9) (j u : Nat) : (elA p).setIfInBounds j (.int .u8 (u : Int)) = elA (p.set j u) := by
  apply Array.ext
  · simp [elA]
  intro i h1 h2
  have h9 : i < 9 := by simpa [elA] using h2
  simp only [elA, Array.getElem_setIfInBounds, List.getElem_toArray, List.getElem_map, List.getElem_range]
  by_cases h : j = i
  · subst h
    simp [List.getD, hl, h9]
  · simp [h, List.getD, List.getElem?_set, h]
def zero9 : List Nat := List.replicate 9 0

theorem info69 : (Try.prog.info? 69).map (fun i => (i.zero, i.size, i.bytes)) = some (some (.agg (elA zero9)), 9, 9) := by kernel_rfl

theorem size69 (p : List Nat) : (Try.prog.info? 69).map (·.size) = some (elA p).size := by rw [elA_size]; kernel_rfl
theorem elA_one (p : List Nat) : (elA p).all (·.oneCell') = true := by simp [elA, Value.oneCell']

/-- The whole array out of a block that is known whole. -/
theorem wpList_load_el {ops : Array Oper} {rest : List Oper} {op : Oper} {a : Act} {w : World} {Q : Exit → Act → World → Prop} (hgd : op.guard = none) (x : Operand) (ho : op.op = .load 69 x)
    (g : Nat) (p : List Nat) (hx : a.eval x = .pointer (some ⟨g, 0, none⟩)) (hb : Blk w g 69 (elA p))
    (h : wpList Try.prog ops Q rest (a.put op.dst (.agg (elA p))) w) : wpList Try.prog ops Q (op :: rest) a w :=
  wpList_load_row hgd 69 x ho g hx 69 (elA p) (0, 0) _ hb Try.underlying69 rfl (size69 p) h

theorem Blk.row {w : World} {g : Nat} {t : TypeId} {cs ds : Array Value} (h : Blk w g t cs) : Blk (w.setRow g ds) g t ds := setRow_heap w g cs ds t _ h
theorem Blk.rowFar {w : World} {g k : Nat} {t : TypeId} {cs ds : Array Value} (h : Blk w g t cs) (hne : g ≠ k) : Blk (w.setRow k ds) g t cs := (setRow_other w k g ds hne).trans h
/-- A whole array into a block that is known whole. -/
theorem wpList_store_el {ops : Array Oper} {rest : List Oper} {op : Oper} {a : Act} {w : World} {Q : Exit → Act → World → Prop} (hgd : op.guard = none) (x y : Operand) (ho : op.op = .store 69 x y)
    (g : Nat) (p q : List Nat) (hx : a.eval x = .pointer (some ⟨g, 0, none⟩)) (hy : a.eval y = .agg (elA q)) (hb : Blk w g 69 (elA p))
    (h : wpList Try.prog ops Q rest (a.put op.dst undef) (w.setRow g (elA q))) : wpList Try.prog ops Q (op :: rest) a w :=
  wpList_plain hgd fun _ hK => by
    unfold Oper.wp execOp
    simp only [ho, hx, hy, Instr.storeAt, Instr.sureAddr, Sem.run_bind, Sem.run_pure, Result.andThen_ok, run_storeVar_row w g 69 69 (elA p) (elA q) hb (size69 q) (by rw [elA_size, elA_size]) (elA_one q)]
    exact hK _ _ h
theorem wp_store_el {op : Oper} {a : Act} {w : World} {K : Act → World → Prop} {Q : Exit → Act → World → Prop} (x y : Operand) (ho : op.op = .store 69 x y)
    (g : Nat) (p q : List Nat) (hx : a.eval x = .pointer (some ⟨g, 0, none⟩)) (hy : a.eval y = .agg (elA q)) (hb : Blk w g 69 (elA p))
    (h : K (a.put op.dst undef) (w.setRow g (elA q))) : Oper.wp Try.prog op a w K Q := by
  unfold Oper.wp execOp
  simp only [ho, hx, hy, Instr.storeAt, Instr.sureAddr, Sem.run_bind, Sem.run_pure, Result.andThen_ok, run_storeVar_row w g 69 69 (elA p) (elA q) hb (size69 q) (by rw [elA_size, elA_size]) (elA_one q)]
  exact h
theorem results_el {fn : Func} {p : Tmp} (h : fn.results = #[.cell p 69]) (tmps : Array Value) (w : World) (g : Nat) (q : List Nat)
    (hp : tmps.getD p undef = .pointer (some ⟨g, 0, none⟩)) (hb : Blk w g 69 (elA q)) : (results fn tmps).run Try.prog w = .ok (.agg (elA q)) w :=
  results_cell_row h tmps w g 69 (elA q) (0, 0) _ hp hb Try.underlying69 rfl (size69 q)

theorem run_index_el (w : World) (a : List Nat) (k : Nat) (hk : k < 9) : (Instr.index 69 (.agg (elA a)) (.int .i64 k)).run Try.prog w = .ok (.int .u8 ((a.getD k 0 : Nat) : Int)) w := by
  have hg := elA_get a k hk
  have h5 : (isAgg 5).run Try.prog w = .ok false w := by kernel_rfl
  have s5 : (sizeOf 5).run Try.prog w = .ok 1 w := by kernel_rfl
  simp [Instr.index, Sem.run_bind, asIntOf, run_underlying Try.underlying69 w, hk, s5, part, h5, hg]
theorem wpList_index_el {ops : Array Oper} {rest : List Oper} {op : Oper} {a : Act} {w : World} {Q : Exit → Act → World → Prop} (hgd : op.guard = none) (x y : Operand) (ho : op.op = .index 69 x y)
    (p : List Nat) (k : Nat) (hk : k < 9) (hx : a.eval x = .agg (elA p)) (hy : a.eval y = .int .i64 k)
    (h : wpList Try.prog ops Q rest (a.put op.dst (.int .u8 ((p.getD k 0 : Nat) : Int))) w) : wpList Try.prog ops Q (op :: rest) a w :=
  wpList_plain hgd fun _ hK => by
    unfold Oper.wp execOp
    simp only [ho, hx, hy, run_index_el w p k hk, Sem.run_bind, Result.andThen_ok]
    exact hK _ _ h

theorem results_elt {fn : Func} {p t : Tmp} (h : fn.results = #[.cell p 69, .tmp t]) (tmps : Array Value) (w : World) (g : Nat) (q : List Nat) (v : Value)
    (hp : tmps.getD p undef = .pointer (some ⟨g, 0, none⟩)) (hb : Blk w g 69 (elA q)) (hv : tmps.getD t undef = v) : (results fn tmps).run Try.prog w = .ok (.tuple #[.agg (elA q), v]) w := by
  have hp' : tmps[p]?.getD undef = .pointer (some ⟨g, 0, none⟩) := by simpa using hp
  have hv' : tmps[t]?.getD undef = v := by simpa using hv
  simp [results, h, hp', hv', asAddr, run_loadVar_row w g 69 69 (elA q) (0, 0) _ hb Try.underlying69 rfl (size69 q)]
/-- 0, 1, .., k - 1, then noughts. -/
def upTo (k : Nat) : List Nat := (List.range 9).map fun j => if j < k then j else 0
theorem upTo_length (k : Nat) : (upTo k).length = 9 := by simp [upTo]
theorem upTo_zero : upTo 0 = zero9 := by decide
theorem upTo_set (k : Nat) : (upTo k).set k k = upTo (k + 1) := by
  apply List.ext_getElem
  · simp [upTo]
  · intro i h1 h2
    simp only [upTo, List.getElem_set, List.getElem_map, List.getElem_range]
    by_cases h : k = i
    · simp [h]
    · by_cases h' : i < k
      · simp [h, h']; omega
      · simp [h, h']; omega
theorem upTo_nine : upTo 9 = idE := by decide

set_option maxHeartbeats 1000000 in
theorem identity_any (w : World) : Calls Try.prog 55 #[] w fun e w' => e = .returned (.agg (elA idE)) ∧ Below w.heap.size w w' := by
  go_enter Try.func55, Try.ntmps55
  go_wp2
  have hb1 : Below w.heap.size w ((w.alloc (Obj.cells (elA zero9) 69)).alloc (Obj.cells (elA zero9) 69)) := ((Below.refl _ _).alloc (Nat.le_refl _) _).alloc (by simp) _
  have B0 : Blk ((w.alloc (Obj.cells (elA zero9) 69)).alloc (Obj.cells (elA zero9) 69)) w.heap.size 69 (elA zero9) := (Blk.new _ _ _).alloc _
  have B1 : Blk ((w.alloc (Obj.cells (elA zero9) 69)).alloc (Obj.cells (elA zero9) 69)) (w.heap.size + 1) 69 (elA zero9) := by
    have := Blk.new (w.alloc (Obj.cells (elA zero9) 69)) 69 (elA zero9)
    simpa using this
  change Code.wp _ _ _ _ ((w.alloc (Obj.cells (elA zero9) 69)).alloc (Obj.cells (elA zero9) 69))
  generalize (w.alloc (Obj.cells (elA zero9) 69)).alloc (Obj.cells (elA zero9) 69) = w1 at *
  go_loopw [3] (fun i wr => ∃ k : Nat, k ≤ 9 ∧ i = .int .i64 k ∧ Blk wr w.heap.size 69 (elA zero9) ∧ Blk wr (w.heap.size + 1) 69 (elA (upTo k)) ∧ Below w.heap.size w wr) (fun i _ => 9 - (intOf i).toNat)
  case atStart => exact ⟨0, Nat.zero_le _, rfl, B0, by rw [upTo_zero]; exact B1, hb1⟩
  case round =>
    obtain ⟨k, hk, rfl, C0, C1, hnx⟩ := hrel
    clear B0 B1 hb1
    by_cases hlt : k < 9
    · have hcell := (C1.cell k).trans (elA_get _ k hlt)
      have hfr := C1.frozen k
      generalize (upTo k).getD k 0 = z at *
      go_wp2
      go_roundw
      case rel => exact ⟨k + 1, by omega, by go_num, C0.far (by simp) _, by rw [← upTo_set, ← elA_set _ (upTo_length k)]; exact C1.set_ _ _, hnx.setCell (by simp) _⟩
      case measure => simp [intOf]; omega
    · obtain rfl : k = 9 := by omega
      rw [upTo_nine] at C1
      go_wp2_with (first | (refine wpList_load_el rfl _ rfl _ _ rfl C1 ?_) | (refine wpList_store_el rfl _ _ rfl _ _ _ rfl rfl C0 ?_))
      exact bodyPost_ret (v := .agg (elA idE)) (results_el rfl _ _ _ _ rfl C0.row) rfl ⟨rfl, below_setRow hnx (Nat.le_refl _) _⟩

/-- f 0, .., f (k - 1), then noughts. -/
def upF (f : Nat → Nat) (k : Nat) : List Nat := (List.range 9).map fun j => if j < k then f j else 0
theorem upF_length (f : Nat → Nat) (k : Nat) : (upF f k).length = 9 := by simp [upF]
theorem upF_zero (f : Nat → Nat) : upF f 0 = zero9 := by simp [upF, zero9]; rfl
theorem upF_set (f : Nat → Nat) (k : Nat) : (upF f k).set k (f k) = upF f (k + 1) := by
  apply List.ext_getElem
  · simp [upF]
  · intro i h1 h2
    simp only [upF, List.getElem_set, List.getElem_map, List.getElem_range]
    by_cases h : k = i
    · simp [h]
    · by_cases h' : i < k
      · simp [h, h']; omega
      · simp [h, h']; omega
theorem upF_nine (f : Nat → Nat) {q : List Nat} (hq : q.length = 9) (h : ∀ j, j < 9 → f j = q.getD j 0) : upF f 9 = q := by
  apply list_ext_getD
  · simp [upF, hq]
  · intro j hj
    have h9 : j < 9 := by simpa [upF] using hj
    rw [← h j h9]
    simp [upF, List.getD, h9]

set_option maxHeartbeats 1000000 in
theorem then_any (a b : List Nat) (w : World) (ha : isP a) (hb : isP b) (la : a.length = 9) (lb : b.length = 9) :
    Calls Try.prog 59 #[.agg (elA a), .agg (elA b)] w fun e w' => e = .returned (.agg (elA (comp a b))) ∧ Below w.heap.size w w' := by
  have HA := hide ha
  have HB := hide hb
  have HLA := hide la
  have HLB := hide lb
  clear ha hb la lb
  go_enter Try.func59, Try.ntmps59
  have HB0 := hide ((((Blk.new w 69 (elA a)).alloc (.cells (elA b) 69)).alloc (.cells (elA zero9) 69)).alloc (.cells (elA zero9) 69))
  go_wp2_with ((with_reducible show wpList _ _ _ (Oper.mk _ (.load 69 _) _ _ _ _ :: _) _ _); refine wpList_load_el rfl _ rfl _ _ rfl HB0.out ?_)
  have HW : ∃ w1, ((((w.alloc (Obj.cells (elA a) 69)).alloc (Obj.cells (elA b) 69)).alloc (Obj.cells (elA zero9) 69)).alloc (Obj.cells (elA zero9) 69)) = w1 := ⟨_, rfl⟩
  obtain ⟨w1, hw1⟩ := HW
  have B3 : Blk w1 (w.heap.size + 1) 69 (elA b) := by
    have := (((Blk.new (w.alloc (Obj.cells (elA a) 69)) 69 (elA b)).alloc (Obj.cells (elA zero9) 69)).alloc (Obj.cells (elA zero9) 69))
    rw [hw1] at this
    simpa using this
  have B4 : Blk w1 (w.heap.size + 1 + 1) 69 (elA zero9) := by
    have := ((Blk.new ((w.alloc (Obj.cells (elA a) 69)).alloc (Obj.cells (elA b) 69)) 69 (elA zero9)).alloc (Obj.cells (elA zero9) 69))
    rw [hw1] at this
    simpa using this
  have B5 : Blk w1 (w.heap.size + 1 + 1 + 1) 69 (elA zero9) := by
    have := (Blk.new (((w.alloc (Obj.cells (elA a) 69)).alloc (Obj.cells (elA b) 69)).alloc (Obj.cells (elA zero9) 69)) 69 (elA zero9))
    rw [hw1] at this
    simpa using this
  have hb1 : Below w.heap.size w w1 := by
    rw [← hw1]
    exact ((((Below.refl _ _).alloc (Nat.le_refl _) _).alloc (by simp) _).alloc (by simp; omega) _).alloc (by simp; omega) _
  change Code.wp _ _ _ _ ((((w.alloc (Obj.cells (elA a) 69)).alloc (Obj.cells (elA b) 69)).alloc (Obj.cells (elA zero9) 69)).alloc (Obj.cells (elA zero9) 69))
  rw [hw1]
  clear hw1
  go_loopw [9] (fun i wr => ∃ k : Nat, k ≤ 9 ∧ i = .int .i64 k ∧ Blk wr (w.heap.size + 1) 69 (elA b) ∧ Blk wr (w.heap.size + 1 + 1) 69 (elA zero9) ∧ Blk wr (w.heap.size + 1 + 1 + 1) 69 (elA (upF (fun j => b.getD (a.getD j 0) 0) k)) ∧ Below w.heap.size w wr) (fun i _ => 9 - (intOf i).toNat)
  case atStart => exact ⟨0, Nat.zero_le _, rfl, B3, B4, by rw [upF_zero]; exact B5, hb1⟩
  case round =>
    obtain ⟨k, hk, rfl, C3, C4, C5, hnx⟩ := hrel
    clear B3 B4 B5 hb1
    by_cases hlt : k < 9
    · have hcell := (C5.cell k).trans (elA_get _ k hlt)
      have hfr := C5.frozen k
      have hax := elA_get a k hlt
      have hx9 : a.getD k 0 < 9 := by have := HA.out.lt (j := k) (by rw [HLA.out]; exact hlt); rw [HLA.out] at this; exact this
      have hcb := (C3.cell (a.getD k 0)).trans (elA_get _ _ hx9)
      have HS := hide (upF_set (fun j => b.getD (a.getD j 0) 0) k)
      generalize (upF (fun j => b.getD (a.getD j 0) 0) k).getD k 0 = z at *
      obtain ⟨x, hx⟩ : ∃ x, a.getD k 0 = x := ⟨_, rfl⟩
      have HX := hide hx
      rw [hx] at hx9 hcb HS
      clear hax hx
      generalize b.getD x 0 = y at *
      go_wp2_with ((with_reducible show wpList _ _ _ (Oper.mk _ (.index 69 _ _) _ _ _ _ :: _) _ _); refine wpList_index_el rfl _ _ rfl a k hlt rfl rfl ?_; rw [HX.out])
      go_roundw
      case rel => exact ⟨k + 1, by omega, by go_num, C3.far (by simp <;> omega) _, C4.far (by simp) _, by rw [← HS.out, ← elA_set _ (upF_length _ k)]; exact C5.set_ _ _, hnx.setCell (by simp <;> omega) _⟩
      case measure => simp [intOf]; omega
    · obtain rfl : k = 9 := by omega
      rw [upF_nine _ (by rw [comp_length]; exact HLA.out) (fun j hj => (comp_getD (by rw [HLA.out]; exact hj)).symm)] at C5
      go_wp2_with (first | ((with_reducible show wpList _ _ _ (Oper.mk _ (.load 69 _) _ _ _ _ :: _) _ _); refine wpList_load_el rfl _ rfl _ _ rfl C5 ?_) | ((with_reducible show wpList _ _ _ (Oper.mk _ (.store 69 _ _) _ _ _ _ :: _) _ _); refine wpList_store_el rfl _ _ rfl _ _ _ rfl rfl C4 ?_))
      exact bodyPost_ret (v := .agg (elA (comp a b))) (results_el rfl _ _ _ _ rfl C4.row) rfl ⟨rfl, below_setRow hnx (by omega) _⟩

/-- The state of inverse's loop. -/
structure InvSt (a q : List Nat) (k : Nat) : Prop where
  len : q.length = 9
  at_ : ∀ j, j < k → q.getD (a.getD j 0) 0 = j
theorem InvSt.step {a q : List Nat} {k : Nat} (h : InvSt a q k) (ha : isP a) (la : a.length = 9) (hk : k < 9) : InvSt a (q.set (a.getD k 0) k) (k + 1) := by
  refine ⟨by simp [h.len], fun j hj => ?_⟩
  have hx9 := ha.lt (j := k) (by omega)
  by_cases e : j = k
  · subst e
    have : a.getD j 0 < 9 := by omega
    simp only [List.getD] at this ⊢
    simp [h.len, this]
  · have hne : a.getD k 0 ≠ a.getD j 0 := fun h' => e (ha.inj (i := j) (j := k) (by omega) (by omega) h'.symm)
    have := h.at_ j (by omega)
    simp only [List.getD] at this hne ⊢
    rw [List.getElem?_set_ne hne]
    exact this
theorem InvSt.done {a q : List Nat} (h : InvSt a q 9) (ha : isP a) (la : a.length = 9) : q = inv a := by
  have := inv_unique ha (ps := zs q) (by rw [zs_length, h.len, la]) (fun j hj => by rw [zs_getD, h.at_ j (by omega)])
  exact zs_inj this

set_option maxHeartbeats 1000000 in
theorem inverseE_any (a : List Nat) (w : World) (ha : isP a) (la : a.length = 9) :
    Calls Try.prog 58 #[.agg (elA a)] w fun e w' => e = .returned (.agg (elA (inv a))) ∧ Below w.heap.size w w' := by
  have HA := hide ha
  have HLA := hide la
  clear ha la
  go_enter Try.func58, Try.ntmps58
  have HB0 := hide (((Blk.new w 69 (elA a)).alloc (.cells (elA zero9) 69)).alloc (.cells (elA zero9) 69))
  go_wp2_with ((with_reducible show wpList _ _ _ (Oper.mk _ (.load 69 _) _ _ _ _ :: _) _ _); refine wpList_load_el rfl _ rfl _ _ rfl HB0.out ?_)
  have HW : ∃ w1, ((w.alloc (Obj.cells (elA a) 69)).alloc (Obj.cells (elA zero9) 69)).alloc (Obj.cells (elA zero9) 69) = w1 := ⟨_, rfl⟩
  obtain ⟨w1, hw1⟩ := HW
  have B4 : Blk w1 (w.heap.size + 1) 69 (elA zero9) := by
    have := ((Blk.new (w.alloc (Obj.cells (elA a) 69)) 69 (elA zero9)).alloc (Obj.cells (elA zero9) 69))
    rw [hw1] at this
    simpa using this
  have B5 : Blk w1 (w.heap.size + 1 + 1) 69 (elA zero9) := by
    have := (Blk.new ((w.alloc (Obj.cells (elA a) 69)).alloc (Obj.cells (elA zero9) 69)) 69 (elA zero9))
    rw [hw1] at this
    simpa using this
  have hb1 : Below w.heap.size w w1 := by
    rw [← hw1]
    exact (((Below.refl _ _).alloc (Nat.le_refl _) _).alloc (by simp) _).alloc (by simp; omega) _
  change Code.wp _ _ _ _ (((w.alloc (Obj.cells (elA a) 69)).alloc (Obj.cells (elA zero9) 69)).alloc (Obj.cells (elA zero9) 69))
  rw [hw1]
  clear hw1 HB0
  go_loopw [7] (fun i wr => ∃ (k : Nat) (q : List Nat), k ≤ 9 ∧ i = .int .i64 k ∧ Hid (InvSt a q k) ∧ Blk wr (w.heap.size + 1) 69 (elA zero9) ∧ Blk wr (w.heap.size + 1 + 1) 69 (elA q) ∧ Below w.heap.size w wr) (fun i _ => 9 - (intOf i).toNat)
  case atStart => exact ⟨0, zero9, Nat.zero_le _, rfl, ⟨rfl, fun j hj => by omega⟩, B4, B5, hb1⟩
  case round =>
    obtain ⟨k, q, hk, rfl, hst, C4, C5, hnx⟩ := hrel
    clear B4 B5 hb1
    by_cases hlt : k < 9
    · have hx9 : a.getD k 0 < 9 := by have := HA.out.lt (j := k) (by rw [HLA.out]; exact hlt); rw [HLA.out] at this; exact this
      have hcell := (C5.cell (a.getD k 0)).trans (elA_get _ _ hx9)
      have hfr := C5.frozen (a.getD k 0)
      have HS := hide (hst.out.step HA.out HLA.out hlt)
      generalize q.getD (a.getD k 0) 0 = z at *
      obtain ⟨x, hx⟩ : ∃ x, a.getD k 0 = x := ⟨_, rfl⟩
      have HX := hide hx
      rw [hx] at hx9 hcell hfr HS
      clear hx
      go_wp2_with ((with_reducible show wpList _ _ _ (Oper.mk _ (.index 69 _ _) _ _ _ _ :: _) _ _); refine wpList_index_el rfl _ _ rfl a k hlt rfl rfl ?_; rw [HX.out])
      go_roundw
      case rel => exact ⟨k + 1, _, by omega, by go_num, HS, C4.far (by simp) _, by rw [← elA_set _ hst.out.len]; exact C5.set_ _ _, hnx.setCell (by simp; omega) _⟩
      case measure => simp [intOf]; omega
    · obtain rfl : k = 9 := by omega
      obtain rfl := hst.out.done HA.out HLA.out
      go_wp2_with (first | ((with_reducible show wpList _ _ _ (Oper.mk _ (.load 69 _) _ _ _ _ :: _) _ _); refine wpList_load_el rfl _ rfl _ _ rfl C5 ?_) | ((with_reducible show wpList _ _ _ (Oper.mk _ (.store 69 _ _) _ _ _ _ :: _) _ _); refine wpList_store_el rfl _ _ rfl _ _ _ rfl rfl C4 ?_))
      exact bodyPost_ret (v := .agg (elA (inv a))) (results_el rfl _ _ _ _ rfl C4.row) rfl ⟨rfl, below_setRow hnx (by omega) _⟩

/-- g on its points, below k alone; elsewhere nothing moves. -/
def extK (g : List Nat) (k : Nat) : List Nat := (List.range 9).map fun j => if j < k then g.getD j 0 else j
/-- A permutation as an element. -/
def ext (g : List Nat) : List Nat := extK g g.length
theorem extK_length (g : List Nat) (k : Nat) : (extK g k).length = 9 := by simp [extK]
theorem extK_zero (g : List Nat) : extK g 0 = idE := by simp [extK, idE]
theorem extK_set (g : List Nat) (k : Nat) : (extK g k).set k (g.getD k 0) = extK g (k + 1) := by
  apply List.ext_getElem
  · simp [extK]
  · intro i h1 h2
    simp only [extK, List.getElem_set, List.getElem_map, List.getElem_range]
    by_cases h : k = i
    · simp [h]
    · by_cases h' : i < k
      · simp [h, h']; omega
      · simp [h, h']; omega

set_option maxHeartbeats 1000000 in
theorem elementOf_any (A : Option Addr) (n c : Nat) (g : List Nat) (w : World) (ha : IL w A n (zs g)) (pg : isP g) (h9 : g.length ≤ 9) :
    Calls Try.prog 41 #[.slice A n c] w fun e w' => e = .returned (.agg (elA (ext g))) ∧ Below w.heap.size w w' := by
  have HP := hide pg
  have hn : g.length = n := by have := ha.len; rwa [zs_length] at this
  have h9' : n ≤ 9 := by omega
  have HN := hide hn
  clear pg h9 hn
  go_enter Try.func41, Try.ntmps41
  go_wp2_with fail
  refine (identity_any _).mono ?_
  rintro e w1 ⟨rfl, hq⟩
  have HW : ∃ w2, (w.alloc (Obj.cells (elA zero9) 69)) = w2 := ⟨_, rfl⟩
  obtain ⟨w2, hw2⟩ := HW
  have hq' : Below w2.heap.size w2 w1 := by rw [← hw2]; exact hq
  have B0 : Blk w1 w.heap.size 69 (elA zero9) := by
    have := Blk.new w 69 (elA zero9)
    rw [hw2] at this
    exact this.below hq' (by rw [← hw2]; simp)
  have hz1 : w.heap.size < w1.heap.size := B0.lt
  have B1 : Blk (w1.alloc (Obj.cells (elA idE) 69)) w1.heap.size 69 (elA idE) := Blk.new _ _ _
  have hb1 : Below w.heap.size w (w1.alloc (Obj.cells (elA idE) 69)) := by
    refine Below.alloc (Below.trans (Below.alloc (Below.refl _ _) (Nat.le_refl _) _) (hq.mono (by simp))) (by omega) _
  have HIL := hide ha
  have B0' := B0.alloc (Obj.cells (elA idE) 69)
  clear hq hq' hw2 ha
  have BZ : Blk (w1.alloc (Obj.cells (elA zero9) 69)) w1.heap.size 69 (elA zero9) := Blk.new _ _ _
  go_wp2_with ((with_reducible show wpList _ _ _ (Oper.mk _ (.store 69 _ _) _ _ _ _ :: _) _ _); refine wpList_store_el rfl _ _ rfl _ _ _ rfl rfl BZ ?_; rw [World.setRow_alloc_new])
  generalize w1.alloc (Obj.cells (elA idE) 69) = w3 at *
  go_loopw [9] (fun i wr => ∃ k : Nat, k ≤ n ∧ i = .int .i64 k ∧ Blk wr w.heap.size 69 (elA zero9) ∧ Blk wr w1.heap.size 69 (elA (extK g k)) ∧ Below w.heap.size w wr) (fun i _ => n - (intOf i).toNat)
  case atStart => exact ⟨0, Nat.zero_le _, rfl, B0', by rw [extK_zero]; exact B1, hb1⟩
  case round =>
    obtain ⟨k, hk, rfl, C4, C5, hnx⟩ := hrel
    have ha := HIL.out.below hnx
    clear B0' B0 B1 hb1 BZ
    by_cases hlt : k < n
    · have hk9 : k < 9 := by omega
      obtain ⟨ad, rfl, hca⟩ := ha.at_ hlt
      rw [zs_getD] at hca
      have hx9 : g.getD k 0 < 256 := by have := HP.out.lt (j := k) (by rw [HN.out]; exact hlt); have := HN.out; omega
      have hcell := (C5.cell k).trans (elA_get _ _ hk9)
      have hfr := C5.frozen k
      have HS := hide (extK_set g k)
      clear ha
      generalize (extK g k).getD k 0 = z at *
      generalize g.getD k 0 = x at *
      go_wp2
      go_roundw
      case rel => exact ⟨k + 1, by omega, by go_num, C4.far (by simp; omega) _, by rw [← HS.out, ← elA_set _ (extK_length g k)]; exact C5.set_ _ _, hnx.setCell (by simp; omega) _⟩
      case measure => simp [intOf]; omega
    · obtain rfl : k = n := by omega
      have HE : Hid (extK g k = ext g) := by unfold ext; rw [HN.out]; exact rfl
      rw [HE.out] at C5
      clear ha
      go_wp2_with (first | ((with_reducible show wpList _ _ _ (Oper.mk _ (.load 69 _) _ _ _ _ :: _) _ _); refine wpList_load_el rfl _ rfl _ _ rfl C5 ?_) | ((with_reducible show wpList _ _ _ (Oper.mk _ (.store 69 _ _) _ _ _ _ :: _) _ _); refine wpList_store_el rfl _ _ rfl _ _ _ rfl rfl C4 ?_))
      exact bodyPost_ret (v := .agg (elA (ext g))) (results_el rfl _ _ _ _ rfl C4.row) rfl ⟨rfl, below_setRow hnx (by omega) _⟩
end Go.Proofs.Ytnpdlfnhpghkmaa
