/- Regions that draw their order, walked by hand: what only reads comes first. -/
import Derived.Test.YtnpdlfnhpghkmaaDict
import Derived.Deep.RegionHeld3
import Derived.Deep.MidRow
namespace Go.Proofs.Ytnpdlfnhpghkmaa
open Go.RowKit Go.Maps

section
variable {P : Program} {ops : Array Oper} {Q : Exit → Act → World → Prop} {S : World → Prop} {md : Region.Mode}

/-- Just one operation may come up: it is carried out. -/
theorem wpAnyH_one {i : Nat} {o : Oper} {fuel : Nat} {listed : Array Bool} {a : Act} {w : World} (hr : Region.ready md ops listed = [i]) (ho : ops[i]? = some o) (hg : Region.wanted o (yielded ops a.tmps) = true)
    (h : o.wp P a w (fun a' w' => S w' ∧ wpAnyH P md ops Q S fuel (listed.setIfInBounds i true) a' w') Q) : wpAnyH P md ops Q S (fuel + 1) listed a w := by
  refine wpAnyH_all hr (by simp) fun j hj => ?_
  obtain rfl : j = i := by simpa using hj
  unfold wpOp
  simp only [ho, hg, if_true]
  exact .inl h
/-- One of two. -/
theorem wpAnyH_two {i k : Nat} {o o' : Oper} {fuel : Nat} {listed : Array Bool} {a : Act} {w : World} (hr : Region.ready md ops listed = [i, k]) (ho : ops[i]? = some o) (ho' : ops[k]? = some o') (hg : Region.wanted o (yielded ops a.tmps) = true) (hg' : Region.wanted o' (yielded ops a.tmps) = true)
    (h : o.wp P a w (fun a' w' => S w' ∧ wpAnyH P md ops Q S fuel (listed.setIfInBounds i true) a' w') Q) (h' : o'.wp P a w (fun a' w' => S w' ∧ wpAnyH P md ops Q S fuel (listed.setIfInBounds k true) a' w') Q) : wpAnyH P md ops Q S (fuel + 1) listed a w := by
  refine wpAnyH_all hr (by simp) fun j hj => ?_
  unfold wpOp
  rcases List.mem_cons.1 hj with rfl | hj
  · simp only [ho, hg, if_true]
    exact .inl h
  · obtain rfl : j = k := by simpa using hj
    simp only [ho', hg', if_true]
    exact .inl h'

theorem noPanic_mk {a : Act} {w : World} (h : Q .normal a w) : NoPanic Q .normal a w := h
/-- Number i, written out, is taken first. -/
theorem wpAnyH_tk (i : Nat) {d : Option Tmp} {op : Op} {ty : TypeId} {pos : String} {af : Array Edge} {gd : Option (Tmp × Bool)} {v : Value} {fuel : Nat} {listed : Array Bool} {a : Act} {w : World} (hi : ops[i]? = some ⟨d, op, ty, pos, af, gd⟩)
    (hs : Region.noSelect ops = true) (hf : Region.free md ops listed i = true) (hr : (Region.ready md ops listed).contains i = true)
    (hy : YieldsIf P ops S ⟨d, op, ty, pos, af, gd⟩ v a) (hS : S w)
    (h : wpAnyH P md ops (NoPanic Q) S fuel (listed.setIfInBounds i true) (a.put d v) w) : wpAnyH P md ops (NoPanic Q) S (fuel + 1) listed a w :=
  wpAnyH_take hi hs hf hr (fun _ _ _ h => h) hy hS h
theorem wpAnyH_1 (i : Nat) {d : Option Tmp} {op : Op} {ty : TypeId} {pos : String} {af : Array Edge} {fuel : Nat} {listed : Array Bool} {a : Act} {w : World} (ho : ops[i]? = some ⟨d, op, ty, pos, af, none⟩) (hr : Region.ready md ops listed = [i])
    (h : Oper.wp P ⟨d, op, ty, pos, af, none⟩ a w (fun a' w' => S w' ∧ wpAnyH P md ops Q S fuel (listed.setIfInBounds i true) a' w') Q) : wpAnyH P md ops Q S (fuel + 1) listed a w :=
  wpAnyH_one hr ho rfl h

/-- What an operation yields, leaving the world alone. -/
def Gives (P : Program) (o : Oper) (a : Act) (w : World) (v : Value) : Prop := (execOp a.eval o).run P w = .ok (.value v) w
theorem yi {o : Oper} {v : Value} {a : Act} (hg : Region.wanted o (yielded ops a.tmps) = true) (h : ∀ w, S w → Gives P o a w v) : YieldsIf P ops S o v a := .inl ⟨hg, h⟩

variable {o : Oper} {a : Act} {w : World}
theorem gives_move {x : Operand} {v : Value} (ho : o.op = .move x ∨ o.op = .assign x) (hx : a.eval x = v) : Gives P o a w v := by
  subst hx
  unfold Gives execOp
  rcases ho with ho | ho <;> rw [ho] <;> rfl
theorem gives_extract {x : Operand} {k : Nat} {vs : Array Value} {v : Value} (ho : o.op = .extract x k) (hx : a.eval x = .tuple vs) (hv : vs[k]? = some v) : Gives P o a w v := by
  unfold Gives execOp
  rw [ho]
  simp [hx, Instr.extract, hv, Result.andThen]
/-- An element of an array variable of n one-cell elements. -/
theorem gives_indexArr {t e : TypeId} {n : Nat} {x y : Operand} {g k : Nat} {q : IntKind} (ho : o.op = .indexAddr t x y) (ht : P.underlying t = some (.array n e)) (he : ∀ w, (sizeOf e).run P w = .ok 1 w) (hx : a.eval x = .pointer (some ⟨g, 0, none⟩)) (hy : a.eval y = .int q k) (hk : k < n) :
    Gives P o a w (.pointer (some ⟨g, k, none⟩)) := by
  have hadd : (⟨g, 0, none⟩ : Addr).add k = ⟨g, k, none⟩ := by rw [Addr.add_mid]; simp
  unfold Gives execOp
  rw [ho]
  simp [hx, hy, Instr.indexAt, Sem.run_bind, asIntOf, run_underlying ht, Instr.sureAddr, he, hk, hadd, Result.andThen]
theorem gives_indexSlice {t e : TypeId} {m : Nat} {x y : Operand} {ad : Addr} {k n c : Nat} {q : IntKind} (ho : o.op = .indexAddr t x y) (ht : P.underlying t = some (.slice e)) (he : ∀ w, (sizeOf e).run P w = .ok m w) (hx : a.eval x = .slice (some ad) n c) (hy : a.eval y = .int q k) (hk : k < n) :
    Gives P o a w (.pointer (some (ad.add (k * m)))) := by
  unfold Gives execOp
  rw [ho]
  simp [hx, hy, Instr.indexAt, Sem.run_bind, asIntOf, run_underlying ht, Instr.sureAddr, he, hk, Result.andThen]
theorem gives_indexB {t e : TypeId} {m : Nat} {x y : Operand} {g k n c : Nat} {q : IntKind} (ho : o.op = .indexAddr t x y) (ht : P.underlying t = some (.slice e)) (he : ∀ w, (sizeOf e).run P w = .ok m w) (hx : a.eval x = .slice (some ⟨g, 0, none⟩) n c) (hy : a.eval y = .int q k) (hk : k < n) :
    Gives P o a w (.pointer (some ⟨g, k * m, none⟩)) := by
  have := gives_indexSlice (w := w) ho ht he hx hy hk
  rwa [show (⟨g, 0, none⟩ : Addr).add (k * m) = ⟨g, k * m, none⟩ by rw [Addr.add_mid]; simp] at this
theorem gives_load1 {t : TypeId} {x : Operand} {ad : Addr} {v : Value} (ho : o.op = .load t x) (h1 : (isAgg t).run P w = .ok false w) (hx : a.eval x = .pointer (some ad)) (hc : w.cell? ad = some v) : Gives P o a w v := by
  unfold Gives execOp
  rw [ho]
  simp [hx, Instr.loadAt, Instr.sureAddr, loadVar, Sem.run_bind, h1, hc, Result.andThen]
theorem gives_loadRow {ty t : TypeId} {x : Operand} {g : Nat} {cs : Array Value} {fr : Nat × Nat} {d : TypeDesc} (ho : o.op = .load ty x) (hx : a.eval x = .pointer (some ⟨g, 0, none⟩)) (hg : w.heap[g]? = some (.cells cs t fr))
    (hu : P.underlying ty = some d) (hd : (match d with | .struct _ | .array _ _ => true | _ => false) = true) (hi : (P.info? ty).map (·.size) = some cs.size) : Gives P o a w (.agg cs) := by
  unfold Gives execOp
  rw [ho]
  simp [hx, Instr.loadAt, Instr.sureAddr, run_loadVar_row w g t ty cs fr d hg hu hd hi, Result.andThen]
theorem gives_loadMid {ty : TypeId} {x : Operand} {g k : Nat} {cs : List Value} {d : TypeDesc} (ho : o.op = .load ty x) (hx : a.eval x = .pointer (some ⟨g, k, none⟩)) (hg : w.rangeAt g k cs)
    (hu : P.underlying ty = some d) (hd : d.isRow = true) (hi : (P.info? ty).map (·.size) = some cs.length) : Gives P o a w (.agg cs.toArray) := by
  unfold Gives execOp
  rw [ho]
  simp [hx, Instr.loadAt, Instr.sureAddr, run_loadVar_mid w g k ty cs d hg hu hd hi, Result.andThen]
theorem gives_lookup {t : TypeId} {x y : Operand} {m key v : Value} {ok : Bool} (ho : o.op = .lookup t x y ok) (hx : a.eval x = m) (hy : a.eval y = key) (h : (Instr.lookup t m key ok).run P w = .ok v w) : Gives P o a w v := by
  unfold Gives execOp
  rw [ho]
  simp [hx, hy, h, Result.andThen]
theorem gives_fieldAddr {s : TypeId} {fs : Array Field} {f : Field} {x : Operand} {k g : Nat} (ho : o.op = .fieldAddr s x k) (hs : P.underlying s = some (.struct fs)) (hf : fs[k]? = some f) (hx : a.eval x = .pointer (some ⟨g, 0, none⟩)) (hp : ∀ w, (fieldPlace ⟨g, 0, none⟩ f).run P w = .ok ⟨g, f.offset, none⟩ w) :
    Gives P o a w (.pointer (some ⟨g, f.offset, none⟩)) := by
  unfold Gives execOp
  rw [ho]
  simp [hx, Instr.fieldAt, Sem.run_bind, run_underlying hs, hf, Instr.sureAddr, hp, Result.andThen]

/-! ### what an operation does -/
theorem wp_gives {K : Act → World → Prop} {v : Value} (h : Gives P o a w v) (hK : K (a.put o.dst v) w) : o.wp P a w K Q := by
  unfold Oper.wp
  unfold Gives at h
  rw [h]
  exact hK
theorem wp_alloc {K : Act → World → Prop} {t : TypeId} {z : Value} {cs : Array Value} (ho : o.op = .alloc t) (hz : (zeroValue t).run P w = .ok z w) (hc : z.cells = cs)
    (hK : K (a.put o.dst (.pointer (some ⟨w.heap.size, 0, none⟩))) (w.alloc (.cells cs t))) : o.wp P a w K Q := by
  subst hc
  unfold Oper.wp execOp
  rw [ho]
  simp [Instr.alloc, Sem.run_bind, hz, Result.andThen, newVar, newRow, newObj]
  exact hK
theorem wp_mput {K : Act → World → Prop} {m x v : Operand} {t k e : TypeId} (hop : o.op = Op.mapUpdate t m x v ∨ o.op = Op.insert t m x v) (Kk : Keyed P k) (ht : P.underlying t = some (.map k e))
    (b s : Nat) (f : Value → Option Value) (hm : a.eval m = .map (some b)) (h : Dict P k w b s f) (hn : s < maxLen) (key val : Value) (kl : Lit) (hx : a.eval x = key) (hv : a.eval v = val) (hkey : keyOf P k key = some kl)
    (f' : Value → Option Value) (h1 : f' key = some val) (h2 : ∀ y l, keyOf P k y = some l → y ≠ key → f' y = f y)
    (hK : ∀ w', Dict P k w' b (if (f key).isSome then s else s + 1) f' → w.grownBy w' (some b) → w'.heap.size = w.heap.size → K (a.put o.dst undef) w') : o.wp P a w K Q := by
  obtain ⟨w', hrun, r1, r2, r3⟩ := h.store Kk ht hn hkey val h1 h2
  unfold Oper.wp
  rcases hop with hop | hop
  all_goals
    simp [execOp, hop, hm, hx, hv, hrun, Result.andThen]
    exact hK w' r1 r2 r3
theorem wp_call {K : Act → World → Prop} {f : FuncId} {l : List Operand} {ts : Array TypeId} (al : List Value) (ho : o.op = .call { callee := .value (.func f), args := l.toArray, argTypes := ts }) (hx : l.map a.eval = al)
    (hcall : ∀ args w, (callFunc f args).run P w = .ok (.enter f args) w) (hev : a.eval (.func f) = .func (.func f) #[] #[])
    (h : Calls P f al.toArray w fun e w' => ∃ v, e = .returned v ∧ K (a.put o.dst v) w') : o.wp P a w K Q := by
  subst hx
  unfold Oper.wp execOp
  rw [ho]
  simp only [resolve, Deferred.ofValue, hev, invoke, Sem.run_bind, Result.andThen, Sem.run_pure, Array.empty_append, Array.append_empty, hcall, List.map_toArray]
  refine h.mono fun e w' ⟨v, he, hK⟩ => ?_
  subst he
  exact hK
theorem enters {f : FuncId} {fn : Func} (hf : P.funcs[f]? = some fn) (hname : (fn.name == "runtime.NumGoroutine") = false) (hb : fn.body.isSome = true) (args : Array Value) (w : World) :
    (callFunc f args).run P w = .ok (.enter f args) w := by
  obtain ⟨c, hc⟩ := Option.isSome_iff_exists.1 hb
  unfold callFunc
  rw [Sem.run_bind]
  simp [hf, hc, ne_of_beq_false hname]
end

/-! ### A region whose last operation may do anything: S is asked of the worlds before it alone. -/
section
variable {P : Program} {ops : Array Oper} {Q : Exit → Act → World → Prop} {S : World → Prop} {md : Region.Mode}

/-- Whatever order is picked from here on; behind each operation but number t, S holds. -/
def wpT (P : Program) (md : Region.Mode) (ops : Array Oper) (Q : Exit → Act → World → Prop) (S : World → Prop) (t : Nat) : Nat → Array Bool → Act → World → Prop
  | 0, listed, a, w => Region.ready md ops listed = [] ∧ Q .normal a w
  | fuel + 1, listed, a, w => (Region.ready md ops listed = [] → Q .normal a w) ∧
      ∀ i ∈ Region.ready md ops listed, wpOp P ops Q i (fun a' w' => (i ≠ t → S w') ∧ wpT P md ops Q S t fuel (listed.setIfInBounds i true) a' w') a w
theorem wpT_any {t : Nat} : ∀ (fuel : Nat) {listed : Array Bool} {a : Act} {w : World}, wpT P md ops Q S t fuel listed a w → wpAny P md ops Q fuel listed a w
  | 0, _, _, _, h => h
  | fuel + 1, _, _, _, h => ⟨h.1, fun i hi => wpOp_mono (fun _ _ h' => wpT_any fuel h'.2) (h.2 i hi)⟩

/-- What is listed has what it waits for listed. -/
def Cl (md : Region.Mode) (ops : Array Oper) (listed : Array Bool) : Prop := ∀ k ok, ops[k]? = some ok → listed.getD k false = true → ∀ e ∈ ok.after, Region.binds md e = true → listed.getD e.on false = true
theorem Cl.set {listed : Array Bool} {j : Nat} (h : Cl md ops listed) (hj : j ∈ Region.ready md ops listed) : Cl md ops (listed.setIfInBounds j true) := fun k ok hk hl e he hb => by
  obtain ⟨_, oj, hoj, hall⟩ := mem_ready.1 hj
  by_cases c : j = k
  · subst c
    rw [hoj] at hk
    injection hk with hk
    subst hk
    exact getD_set_true (hall e he hb)
  · rw [getD_set_ne false c] at hl
    exact getD_set_true (h k ok hk hl e he hb)
/-- Does operation t wait for i, by however many steps (at most n)? -/
def waitsB (md : Region.Mode) (ops : Array Oper) : Nat → Nat → Nat → Bool
  | 0, _, _ => false
  | n + 1, t, i => match ops[t]? with | some o => o.after.any fun e => Region.binds md e && (e.on == i || waitsB md ops n e.on i) | none => false
theorem waits_listed {listed : Array Bool} (h : Cl md ops listed) : ∀ (n t i : Nat), waitsB md ops n t i = true → listed.getD t false = true → listed.getD i false = true
  | 0, _, _, hw, _ => by cases hw
  | n + 1, t, i, hw, hl => by
    unfold waitsB at hw
    cases ho : ops[t]? with
    | none => rw [ho] at hw; cases hw
    | some o =>
      rw [ho] at hw
      simp only [Array.any_eq_true'] at hw
      obtain ⟨e, he, hb⟩ := hw
      rw [Bool.and_eq_true, Bool.or_eq_true] at hb
      have h1 := h t o ho hl e he hb.1
      rcases hb.2 with h2 | h2
      · rw [← beq_iff_eq.1 h2]; exact h1
      · exact waits_listed h n _ i h2 h1
theorem waits_ready {listed : Array Bool} (h : Cl md ops listed) {n t i : Nat} (hw : waitsB md ops n t i = true) (ht : t ∈ Region.ready md ops listed) : listed.getD i false = true := by
  obtain ⟨_, o, ho, hall⟩ := mem_ready.1 ht
  cases n with
  | zero => cases hw
  | succ n =>
    unfold waitsB at hw
    rw [ho] at hw
    simp only [Array.any_eq_true'] at hw
    obtain ⟨e, he, hb⟩ := hw
    rw [Bool.and_eq_true, Bool.or_eq_true] at hb
    have h1 := hall e he hb.1
    rcases hb.2 with h2 | h2
    · rw [← beq_iff_eq.1 h2]; exact h1
    · exact waits_listed h n _ i h2 h1
def closedB (md : Region.Mode) (ops : Array Oper) (listed : Array Bool) : Bool := (List.range ops.size).all fun k => !listed.getD k false || (match ops[k]? with | some o => o.after.all fun e => !Region.binds md e || listed.getD e.on false | none => true)
theorem closedB_spec {listed : Array Bool} (h : closedB md ops listed = true) : Cl md ops listed := fun k ok hk hl e he hb => by
  have hlt : k < ops.size := (Array.getElem?_eq_some_iff.1 hk).1
  have h1 := List.all_eq_true.1 h k (List.mem_range.2 hlt)
  rw [hk] at h1
  simp only [hl, Bool.not_true, Bool.false_or] at h1
  have h2 := (Array.all_eq_true_iff_forall_mem.1 h1) e he
  simpa [hb] using h2

/-- Operation i, which t waits for, is taken first. -/
theorem wpT_first {t i n : Nat} {oi : Oper} {v : Value} (hi : ops[i]? = some oi) (hw : waitsB md ops n t i = true) (hs : Region.noSelect ops = true)
    (hQ : ∀ c a w, Q (.panic c) (a.put oi.dst v) w → Q (.panic c) a w) : ∀ (fuel : Nat) (listed : Array Bool) (a : Act) (w : World), Cl md ops listed →
      (∀ j oj, ops[j]? = some oj → j ≠ i → listed.getD j true = false → (∀ e ∈ oj.after, Region.binds md e = true → e.on ≠ i) → oi.apart ops oj = true) →
      i ∈ Region.ready md ops listed → YieldsIf P ops S oi v a → S w →
      wpT P md ops Q S t fuel (listed.setIfInBounds i true) (a.put oi.dst v) w → wpT P md ops Q S t (fuel + 1) listed a w := by
  have hsel := Region.noSelect_spec hs
  intro fuel
  induction fuel with
  | zero =>
    intro listed a w _ _ hr hy hS H
    refine ⟨(fun h => by rw [h] at hr; cases hr), fun j hj => ?_⟩
    by_cases e : j = i
    · subst e
      exact hy.wpOp hi hS ⟨fun _ => hS, H⟩
    · have h0 := ready_mono hj e
      rw [H.1] at h0
      cases h0
  | succ fuel ih =>
    intro listed a w hcl hf hr hy hS H
    refine ⟨(fun h => by rw [h] at hr; cases hr), fun j hj => ?_⟩
    by_cases e : j = i
    · subst e
      exact hy.wpOp hi hS ⟨fun _ => hS, H⟩
    · obtain ⟨hun, oj, hoj, hall⟩ := mem_ready.1 hj
      have hiun : listed.getD i false = false := by
        have h0 := (mem_ready.1 hr).1
        rcases Nat.lt_or_ge i listed.size with h' | h'
        · simp [h'] at h0 ⊢; exact h0
        · simp [Array.getElem?_eq_none h']
      have hnw : ∀ e ∈ oj.after, Region.binds md e = true → e.on ≠ i := fun e he hb hon => by
        have := hall e he hb
        rw [hon, hiun] at this
        cases this
      have hjt : j ≠ t := by
        rintro rfl
        have := waits_ready hcl hw hj
        rw [hiun] at this
        cases this
      have h2 := wpOp_putIf hoj (hf j oj hoj e hun hnw) (fun cs b => hsel i oi cs b hi) (fun cs b => hsel j oj cs b hoj) hQ hy (H.2 j (ready_mono hj e))
      refine wpOp_mono (fun a' w' h3 => ⟨h3.2.1, ih (listed.setIfInBounds j true) a' w' (hcl.set hj) (fun k ok hk hki hun' hno => hf k ok hk hki ?_ hno) (ready_mono hr (Ne.symm e)) h3.1 (h3.2.1 hjt) ?_⟩) h2
      · by_cases hjk : j = k
        · subst hjk; exact hun
        · rw [getD_set_ne true hjk] at hun'; exact hun'
      · rw [Array.setIfInBounds_comm _ _ e]
        exact h3.2.2

theorem wpT_tk (i : Nat) {t : Nat} {d : Option Tmp} {op : Op} {ty : TypeId} {pos : String} {af : Array Edge} {gd : Option (Tmp × Bool)} {v : Value} {fuel : Nat} {listed : Array Bool} {a : Act} {w : World} (hi : ops[i]? = some ⟨d, op, ty, pos, af, gd⟩)
    (hs : Region.noSelect ops = true) (hf : Region.free md ops listed i = true) (hr : (Region.ready md ops listed).contains i = true) (hw : (waitsB md ops 20 t i && closedB md ops listed) = true)
    (hy : YieldsIf P ops S ⟨d, op, ty, pos, af, gd⟩ v a) (hS : S w)
    (h : wpT P md ops (NoPanic Q) S t fuel (listed.setIfInBounds i true) (a.put d v) w) : wpT P md ops (NoPanic Q) S t (fuel + 1) listed a w := by
  rw [Bool.and_eq_true] at hw
  exact wpT_first hi hw.1 hs (fun _ _ _ h => h) fuel listed a w (closedB_spec hw.2) (Region.free_spec hi hf) (by simpa using hr) hy hS h
theorem wpT_1 (i : Nat) {t : Nat} {d : Option Tmp} {op : Op} {ty : TypeId} {pos : String} {af : Array Edge} {fuel : Nat} {listed : Array Bool} {a : Act} {w : World} (ho : ops[i]? = some ⟨d, op, ty, pos, af, none⟩) (hr : Region.ready md ops listed = [i])
    (h : Oper.wp P ⟨d, op, ty, pos, af, none⟩ a w (fun a' w' => (i ≠ t → S w') ∧ wpT P md ops Q S t fuel (listed.setIfInBounds i true) a' w') Q) : wpT P md ops Q S t (fuel + 1) listed a w := by
  refine ⟨(fun h0 => by rw [hr] at h0; cases h0), fun j hj => ?_⟩
  rw [hr] at hj
  obtain rfl : j = i := by simpa using hj
  unfold wpOp
  have hg : Region.wanted (⟨d, op, ty, pos, af, none⟩ : Oper) (yielded ops a.tmps) = true := rfl
  simp only [ho, hg, if_true]
  exact .inl h
theorem wpT_done {t : Nat} {listed : Array Bool} {a : Act} {w : World} (hr : Region.ready md ops listed = []) (h : Q .normal a w) : ∀ fuel, wpT P md ops Q S t fuel listed a w
  | 0 => ⟨hr, h⟩
  | _ + 1 => ⟨fun _ => h, by rw [hr]; simp⟩
theorem wp_region_T {id : Nat} {a : Act} {w : World} (t : Nat) (hm : P.follows .mixedOrders = true) (hS : S w.drew)
    (h : S w.drew → wpT P .any ops (NoPanic Q) S t ops.size (Array.replicate ops.size false) a w.drew) : (Code.region id ops true).wp P Q a w :=
  wp_region_noPanic (wp_region_any hm (wpT_any _ (h hS)))

/-- A call of a function value. -/
theorem wp_callV {o : Oper} {a : Act} {w : World} {K : Act → World → Prop} {x : Operand} {f : FuncId} {l : List Operand} {ts : Array TypeId} {cap : List Value} (al : List Value) (ho : o.op = .call { callee := .value x, args := l.toArray, argTypes := ts }) (hx : l.map a.eval = al)
    (hcall : ∀ args w, (callFunc f args).run P w = .ok (.enter f args) w) (hev : a.eval x = .func (.func f) #[] cap.toArray)
    (h : Calls P f (al ++ cap).toArray w fun e w' => ∃ v, e = .returned v ∧ K (a.put o.dst v) w') : o.wp P a w K Q := by
  subst hx
  unfold Oper.wp execOp
  rw [ho]
  simp only [resolve, Deferred.ofValue, hev, invoke, Sem.run_bind, Result.andThen, Sem.run_pure, Array.empty_append, hcall, List.map_toArray, List.append_toArray]
  refine h.mono fun e w' ⟨v, he, hK⟩ => ?_
  subst he
  exact hK
end
end Go.Proofs.Ytnpdlfnhpghkmaa
