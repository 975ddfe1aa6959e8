/- More operations of regions; laws from what an operation gives; the map of last letters as a function. -/
import Derived.Test.YtnpdlfnhpghkmaaLetters
namespace Go.Proofs.Ytnpdlfnhpghkmaa
open Go.RowKit Go.Maps

section
variable {P : Program} {o : Oper} {a : Act} {w : World} {K : Act → World → Prop} {Q : Exit → Act → World → Prop} {ops : Array Oper} {rest : List Oper}
theorem wpList_gives (hg : o.guard = none) {v : Value} (h : Gives P o a w v) (hK : wpList P ops Q rest (a.put o.dst v) w) : wpList P ops Q (o :: rest) a w :=
  wpList_plain hg fun _ hK' => wp_gives h (hK' _ _ hK)
theorem gives_lss {x y : Operand} {ty : TypeId} {m k : Int} {b : Bool} (ho : o.op = .binOp .lss 3 x y ty) (hx : a.eval x = .int .i64 m) (hy : a.eval y = .int .i64 k) (hz : decide (m < k) = b) : Gives P o a w (.bool b) := by
  subst hz
  unfold Gives execOp
  rw [ho]
  simp [hx, hy, eqGuard, binOp, Op.intCmp, Sem.run_bind, Result.andThen]
theorem gives_len {x : Operand} {t e : TypeId} {A : Option Addr} {n c : Nat} (ho : o.op = .call { callee := .builtin .len, args := #[x], argTypes := #[t] }) (ht : P.underlying t = some (.slice e)) (hx : a.eval x = .slice A n c) : Gives P o a w (.int .i64 n) := by
  unfold Gives execOp
  rw [ho]
  simp [hx, resolve, invoke, builtin, Builtin.len_, run_underlying ht, Sem.run_bind, Result.andThen, goInt]
theorem gives_pick {x y z : Operand} {b : Bool} {v : Value} (ho : o.op = .pick x y z) (hx : a.eval x = .bool b) (hv : (if b then a.eval y else a.eval z) = v) : Gives P o a w v := by
  subst hv
  unfold Gives execOp
  rw [ho]
  cases b <;> simp [hx, asBool, Sem.run_bind, Result.andThen]
theorem no {S : World → Prop} {o : Oper} {a : Act} (hg : Region.wanted o (yielded ops a.tmps) = false) : YieldsIf P ops S o undef a := .inr ⟨hg, rfl⟩
theorem wp_storeRow {ty : TypeId} {x y : Operand} {g : Nat} {cs old : Array Value} {t : TypeId} (ho : o.op = .store ty x y) (hx : a.eval x = .pointer (some ⟨g, 0, none⟩)) (hy : a.eval y = .agg cs) (hb : Blk w g t old) (hi : (P.info? ty).map (·.size) = some cs.size) (hs : old.size = cs.size) (h1 : cs.all (·.oneCell') = true)
    (hK : K (a.put o.dst undef) (w.setRow g cs)) : o.wp P a w K Q := wp_store_row ty x y ho g cs hx hy t old hb hi hs h1 hK
end

theorem elA_inj {p q : List Nat} (hp : PM 9 p) (hq : PM 9 q) (h : elA p = elA q) : p = q := by
  refine hp.ext hq fun j hj => ?_
  have := congrArg (fun a : Array Value => a[j]?) h
  simp only [elA_get _ j hj, Option.some.injEq, Value.int.injEq, true_and] at this
  omega
/-- An element as a key. -/
def keyP (p : List Nat) : Value := .agg (elA (ext p))
theorem keyP_inj {n : Nat} {p q : List Nat} (hp : PM n p) (hq : PM n q) (hn : n ≤ 9) (h : keyP p = keyP q) : p = q := by
  unfold keyP at h
  injection h with h
  exact ext_inj hp hq hn (elA_inj (ext_PM hp hn) (ext_PM hq hn) h)

/-- The cells of the last letter of a word. -/
def lvC (gl : List (List Nat)) (w : List Int) : Array Value := match w.getLast? with | none => ltA 0 zero9 | some x => ltA x (ext (lg gl x))
theorem lvC_nil (gl : List (List Nat)) : lvC gl [] = ltA 0 zero9 := rfl
theorem lvC_snoc (gl : List (List Nat)) (w : List Int) (x : Int) : lvC gl (w ++ [x]) = ltA x (ext (lg gl x)) := by simp [lvC]
theorem lvC_size (gl : List (List Nat)) (w : List Int) : (lvC gl w).size = 10 := by unfold lvC; split <;> exact ltA_size _ _
theorem lvC_one (gl : List (List Nat)) (w : List Int) : (lvC gl w).all (·.oneCell') = true := by
  rw [Array.all_eq_true_iff_forall_mem]
  intro u hu
  unfold lvC at hu
  split at hu
  · exact ltA_one _ _ u (by simpa using hu)
  · exact ltA_one _ _ u (by simpa using hu)
theorem size94 (cs : Array Value) (h : cs.size = 10) : (Try.prog.info? 94).map (·.size) = some cs.size := by rw [h]; kernel_rfl
theorem zero94 (w : World) : (zeroValue 94).run Try.prog w = .ok (.agg (ltA 0 zero9)) w := by kernel_rfl

open Classical in
/-- The map of last letters: elements to letters. -/
noncomputable def lmF (gl : List (List Nat)) : List Ent → Value → Option Value
  | [], _ => none
  | e :: f, key => if key = keyP e.1 then some (.agg (lvC gl e.2)) else lmF gl f key
theorem lmF_snoc_ne {gl : List (List Nat)} {e : Ent} {key : Value} (h : key ≠ keyP e.1) : ∀ f, lmF gl (f ++ [e]) key = lmF gl f key
  | [] => by simp [lmF, h]
  | d :: f => by simp only [List.cons_append, lmF, lmF_snoc_ne h f]
theorem lmF_snoc {gl : List (List Nat)} {e : Ent} : ∀ f, (∀ d ∈ f, keyP d.1 ≠ keyP e.1) → lmF gl (f ++ [e]) (keyP e.1) = some (.agg (lvC gl e.2))
  | [], _ => by simp [lmF]
  | d :: f, h => by
    simp only [List.cons_append, lmF]
    rw [if_neg (fun h' => h d (by simp) h'.symm)]
    exact lmF_snoc f fun d hd => h d (by simp [hd])
theorem lmF_none {gl : List (List Nat)} {key : Value} : ∀ f, (∀ d ∈ f, keyP d.1 ≠ key) → lmF gl f key = none
  | [], _ => rfl
  | d :: f, h => by
    simp only [lmF]
    rw [if_neg (fun h' => h d (by simp) h'.symm)]
    exact lmF_none f fun d hd => h d (by simp [hd])
theorem lmF_some {gl : List (List Nat)} {e : Ent} : ∀ {f : List Ent}, e ∈ f → (∀ d ∈ f, keyP d.1 = keyP e.1 → d = e) → lmF gl f (keyP e.1) = some (.agg (lvC gl e.2))
  | d :: f, he, h => by
    simp only [lmF]
    by_cases hk : keyP e.1 = keyP d.1
    · rw [if_pos hk, h d (by simp) hk.symm]
    · rw [if_neg hk]
      rcases List.mem_cons.1 he with rfl | he
      · exact absurd rfl hk
      · exact lmF_some he fun d hd => h d (by simp [hd])
section
variable {n i k : Nat} {ls : List Lt} {gl : List (List Nat)} {f : List Ent}
theorem Bfs.pm (hP : ∀ l ∈ ls, PM n l.2) (h : Bfs n ls i k f) : ∀ e ∈ f, PM n e.1 := h.all (PM.range n) fun _ _ hl hs => hs.comp (hP _ hl)
theorem lts_pm (hP : PMs n gl) : ∀ l ∈ lts gl, PM n l.2 := fun _ hl => (lts_gen hP hl).pm hP
theorem Bfs.lm_some (hP : PMs n gl) (hn : n ≤ 9) (h : Bfs n (lts gl) i k f) {e : Ent} (he : e ∈ f) : lmF gl f (keyP e.1) = some (.agg (lvC gl e.2)) :=
  lmF_some he fun _ hd hk => h.inj hd he (keyP_inj (h.pm (lts_pm hP) _ hd) (h.pm (lts_pm hP) _ he) hn hk)
theorem Bfs.lm_none (hP : PMs n gl) (hn : n ≤ 9) (h : Bfs n (lts gl) i k f) {p : List Nat} (hp : PM n p) (hm : p ∉ f.map (·.1)) : lmF gl f (keyP p) = none :=
  lmF_none f fun _ hd hk => hm (List.mem_map.2 ⟨_, hd, keyP_inj (h.pm (lts_pm hP) _ hd) hp hn hk⟩)
theorem ltAt_pm (hP : PMs n gl) (hk : k < (lts gl).length) : PM n (ltAt (lts gl) k).2 := lts_pm hP _ (ltAt_mem hk)
theorem lvC_mk (hk : k < (lts gl).length) : lvC gl (mk (lts gl) f i k).2 = ltA (ltAt (lts gl) k).1 (ext (ltAt (lts gl) k).2) := by
  simp only [mk]
  rw [lvC_snoc, ← (mem_lts_lg (ltAt_mem hk)).1]
end
end Go.Proofs.Ytnpdlfnhpghkmaa
