/- permgroup.Orbits and StabilizerOrder: the errors; how many elements leave a point where it is. -/
import Derived.Test.YtnpdlfnhpghkmaaRWant
import Derived.Test.YtnpdlfnhpghkmaaStab
namespace Go.Proofs.Ytnpdlfnhpghkmaa
open Go.RowKit Go.Maps
set_option linter.unusedVariables false
set_option linter.unusedSimpArgs false

theorem orbits_err (A : Option Addr) (n : Int) (l c : Nat) (xss : List (List Int)) (w : World) (hx : ILL w A l xss) (hn : (Lit.int .i64 n).wf = true) (hf : gf n xss ≠ 0) :
    Calls Try.prog 17 #[.int .i64 n, .slice A l c] w fun e w' => e = .returned (.tuple #[.slice none 0 0, .int .i64 (gf n xss)]) ∧ Below w.heap.size w w' := by
  have HC := hide (gcheck_any A n l c xss w hx hn)
  have hpb : (gf n xss == 0) = false := by simpa using hf
  have hpb2 : (gf n xss != 0) = true := by simpa using hf
  obtain ⟨f, hff⟩ : ∃ f, gf n xss = f := ⟨_, rfl⟩
  have HF := hide hff
  rw [hff] at hpb hpb2 HC
  clear hx hn hf hff
  go_enter Try.func17, Try.ntmps17
  go_wp2_with fail
  refine HC.out.mono ?_
  rintro e w1 ⟨rfl, hb1⟩
  go_wp2
  go_ret2
  rw [HF.out]
  exact ⟨rfl, hb1⟩
theorem stab_err (A : Option Addr) (n pt : Int) (l c : Nat) (xss : List (List Int)) (w : World) (hx : ILL w A l xss) (hn : (Lit.int .i64 n).wf = true) (hf : gf n xss ≠ 0) :
    Calls Try.prog 18 #[.int .i64 n, .slice A l c, .int .i64 pt] w fun e w' => e = .returned (.tuple #[.int .i64 0, .int .i64 (gf n xss)]) ∧ Below w.heap.size w w' := by
  have HC := hide (gcheck_any A n l c xss w hx hn)
  have hpb : (gf n xss == 0) = false := by simpa using hf
  have hpb2 : (gf n xss != 0) = true := by simpa using hf
  obtain ⟨f, hff⟩ : ∃ f, gf n xss = f := ⟨_, rfl⟩
  have HF := hide hff
  rw [hff] at hpb hpb2 HC
  clear hx hn hf hff
  go_enter Try.func18, Try.ntmps18
  go_wp2_with fail
  refine HC.out.mono ?_
  rintro e w1 ⟨rfl, hb1⟩
  go_wp2
  go_ret2
  rw [HF.out]
  exact ⟨rfl, hb1⟩
theorem stab_arg (A : Option Addr) (n l c : Nat) (pt : Int) (gl : List (List Nat)) (w : World) (hx : ILL w A l (zss gl)) (hn : n ≤ 9) (hl : gl.length ≤ 6) (hP : PMs n gl) (hp : ¬ (0 ≤ pt ∧ pt < n)) :
    Calls Try.prog 18 #[.int .i64 n, .slice A l c, .int .i64 pt] w fun e w' => e = .returned (.tuple #[.int .i64 0, .int .i64 1]) ∧ Below w.heap.size w w' := by
  have hwf : (Lit.int .i64 (n : Int)).wf = true := by
    simp [Lit.wf, IntKind.min, IntKind.max, IntKind.signed, IntKind.bits]
    omega
  have HC := hide (gcheck_any A n l c (zss gl) w hx hwf)
  rw [show gf n (zss gl) = 0 from gf_ok hn hl hP] at HC
  clear hx hwf hP
  by_cases h0 : pt < 0
  · go_enter Try.func18, Try.ntmps18
    go_wp2_with fail
    refine HC.out.mono ?_
    rintro e w1 ⟨rfl, hb1⟩
    go_wp2
    go_ret2
    exact ⟨rfl, hb1⟩
  · have h1 : (n : Int) ≤ pt := by omega
    clear hp
    go_enter Try.func18, Try.ntmps18
    go_wp2_with fail
    refine HC.out.mono ?_
    rintro e w1 ⟨rfl, hb1⟩
    go_wp2
    go_ret2
    exact ⟨rfl, hb1⟩

/-- How many of the entries leave x where it is. -/
def fixN (f : List Ent) (x : Nat) : Nat := f.countP fun e => decide (e.1.getD x 0 = x)
theorem fix_count {n : Nat} {gl : List (List Nat)} {f : List Ent} {es : List (List Nat)} (hn : n ≤ 9) (hP : PMs n gl) (h : Bfs n (lts gl) f.length 0 f) (he : EnumG 9 (gl.map ext) es) {x : Nat} (hx : x < n) :
    (es.filter fun p => decide (p.getD x 0 = x)).length = fixN f x := by
  have hp : es.Perm (esF f) := (List.perm_ext_iff_of_nodup he.nd (h.enum hn hP).nd).2 fun p => by rw [he.mem, (h.enum hn hP).mem]
  rw [(hp.filter _).length_eq, ← List.countP_eq_length_filter]
  unfold esF fixN
  rw [List.countP_map]
  refine List.countP_congr fun e hem => ?_
  have hpm := h.pm (lts_pm hP) e hem
  have : (ext e.1).getD x 0 = e.1.getD x 0 := by
    unfold ext
    rw [extK_getD e.1 e.1.length (by omega), if_pos (by rw [hpm.2]; exact hx)]
  simp only [Function.comp, this]

theorem agg23 (w : World) : (isAgg 23).run Try.prog w = .ok false w := by kernel_rfl
theorem agg3 (w : World) : (isAgg 3).run Try.prog w = .ok false w := by kernel_rfl
theorem size23' (w : World) : (sizeOf 23).run Try.prog w = .ok 1 w := by kernel_rfl
theorem fill3 (i : Int) : Instr.fill (fun j => some (j * 1, 1)) ((Array.range (1 * 1)).map ((Value.int .i64 0).cells[· % (Value.int .i64 0).cells.size]!)) [(0, .int .i64 i)] = some #[.int .i64 i] := by kernel_rfl
theorem wp_store1 {P : Program} {o : Oper} {a : Act} {w : World} {K : Act → World → Prop} {Q : Exit → Act → World → Prop} {ty : TypeId} {x y : Operand} {ad : Addr} {A : Option Addr} {n c : Nat} {old : Value} (ho : o.op = .store ty x y) (h1 : (isAgg ty).run P w = .ok false w) (hsz : (sizeOf ty).run P w = .ok 1 w) (hx : a.eval x = .pointer (some ad)) (hy : a.eval y = .slice A n c)
    (hc : w.cell? ad = some old) (hf : w.frozen? ad = false) (hK : K (a.put o.dst undef) (w.setCell ad (.slice A n c))) : o.wp P a w K Q := by
  unfold Oper.wp execOp
  rw [ho]
  simp only [hx, hy, Instr.storeAt, Instr.sureAddr, Sem.run_bind, Sem.run_pure, Result.andThen_ok]
  have e0 : ad.add 0 = ad := by unfold Addr.add; simp
  simp [storeVar, Sem.run_bind, h1, hsz, Value.cells, storeCells, run_store_slice, stored, e0, hc, hf, Result.andThen]
  exact hK
theorem gives_index22 {o : Oper} {a : Act} {w : World} {x y : Operand} {g k n c : Nat} (ho : o.op = .indexAddr 22 x y) (hx : a.eval x = .slice (some ⟨g, 0, none⟩) n c) (hy : a.eval y = .int .i64 k) (hk : k < n) : Gives Try.prog o a w (.pointer (some ⟨g, k, none⟩)) := by
  have := gives_indexB (P := Try.prog) (w := w) ho Try.underlying22 size23' hx hy hk
  rwa [Nat.mul_one] at this

theorem countP_step {α : Type} {p q : α → Bool} : ∀ {l : List α} {j : Nat} (hj : j < l.length), (∀ i (hi : i < l.length), i ≠ j → p l[i] = q l[i]) → p l[j] = false → l.countP q = l.countP p + if q l[j] then 1 else 0
  | [], j, hj, _, _ => by simp at hj
  | x :: l, 0, _, h, hp => by
    have hp' : p x = false := hp
    have e : l.countP q = l.countP p := by
      refine List.countP_congr fun y hy => ?_
      obtain ⟨i, hi, rfl⟩ := List.mem_iff_getElem.1 hy
      have := h (i + 1) (by simpa using hi) (by omega)
      simp only [List.getElem_cons_succ] at this
      rw [this]
    rw [List.countP_cons, List.countP_cons, e, hp']
    simp
  | x :: l, j + 1, hj, h, hp => by
    have h0 := h 0 (by simp) (by omega)
    simp only [List.getElem_cons_zero] at h0
    rw [List.countP_cons, List.countP_cons, h0, countP_step (l := l) (j := j) (by simpa using hj) (fun i hi hne => by
      have := h (i + 1) (by simpa using hi) (by omega)
      simpa using this) (by simpa using hp)]
    simp only [List.getElem_cons_succ]
    omega
theorem gmF_inv {key : Value} {v : Value} : ∀ (f : List Ent) (rs : List (Array Value)), gmF f rs key = some v → ∃ j, j < f.length ∧ key = keyR (entAt f j).1 ∧ v = .agg (rs.getD j #[])
  | [], _, h => by simp [gmF] at h
  | _ :: _, [], h => by simp [gmF] at h
  | d :: f, s :: rs, h => by
    simp only [gmF] at h
    by_cases e : key = keyR d.1
    · rw [if_pos e] at h
      injection h with h
      exact ⟨0, by simp, by simpa [entAt] using e, by simp [h]⟩
    · rw [if_neg e] at h
      obtain ⟨j, hj, h1, h2⟩ := gmF_inv f rs h
      exact ⟨j + 1, by simp; omega, by simpa [entAt] using h1, by simpa using h2⟩

/-- The range over the group's map: what is left, and how many of the others leave x where it is. -/
structure RL (fs : List Ent) (rs : List (Array Value)) (x : Nat) (left : Lit → Bool) (t : Nat) : Prop where
  ent : ∀ key kl, keyOf Try.prog 3 key = some kl → left kl = true → ∃ j, j < fs.length ∧ key = keyR (entAt fs j).1 ∧ gmF fs rs key = some (.agg (rs.getD j #[]))
  cnt : t = fs.countP fun e => !left (.int .i64 (rankN e.1 : Nat)) && decide (e.1.getD x 0 = x)
theorem RL.start {fs : List Ent} {rs : List (Array Value)} {x : Nat} {D : DataW Value} (h9 : ∀ e ∈ fs, e.1.length ≤ 9) (hl : fs.length = rs.length) (hi : ∀ i j, i < fs.length → j < fs.length → keyR (entAt fs i).1 = keyR (entAt fs j).1 → i = j)
    (hf : ∀ key kl, keyOf Try.prog 3 key = some kl → match gmF fs rs key with | none => Maps.has D kl = false | some v => Maps.has D kl = true ∧ ∀ z, D.atKey kl z = .held v) : RL fs rs x (Maps.has D) 0 := by
  refine ⟨fun key kl hk hh => ?_, ?_⟩
  · have := hf key kl hk
    cases hg : gmF fs rs key with
    | none => rw [hg] at this; rw [this] at hh; cases hh
    | some v =>
      obtain ⟨j, hj, h1, h2⟩ := gmF_inv fs rs hg
      exact ⟨j, hj, h1, by rw [h2]⟩
  · symm
    rw [List.countP_eq_zero]
    intro e he
    obtain ⟨j, hj, rfl⟩ := mem_entAt he
    have := hf _ _ (keyOfR (h9 _ he))
    rw [gmF_some fs rs j hl hj (fun i hij h => by have := hi i j (by omega) hj h; omega)] at this
    rw [this.1]
    simp
theorem RL.step {fs : List Ent} {rs : List (Array Value)} {x t : Nat} {left : Lit → Bool} {key : Value} {kl : Lit} (h : RL fs rs x left t) (h9 : ∀ e ∈ fs, e.1.length ≤ 9) (hi : ∀ i j, i < fs.length → j < fs.length → keyR (entAt fs i).1 = keyR (entAt fs j).1 → i = j)
    (hk : keyOf Try.prog 3 key = some kl) {j : Nat} (hj : j < fs.length) (hkey : key = keyR (entAt fs j).1) (hl : left kl = true) :
    RL fs rs x (fun z => left z && !z.sameKey kl) (t + if (entAt fs j).1.getD x 0 = x then 1 else 0) := by
  have hkl : kl = .int .i64 (rankN (entAt fs j).1 : Nat) := by
    have := keyOfR (h9 _ (entAt_mem hj))
    rw [hkey] at hk
    rw [hk] at this
    injection this
  have hsame : ∀ i, i < fs.length → (Lit.int .i64 (rankN (entAt fs i).1 : Nat)).sameKey kl = decide (i = j) := fun i hil => by
    rw [hkl]
    by_cases e : i = j
    · subst e; simp [Lit.sameKey]
    · have hne : rankN (entAt fs i).1 ≠ rankN (entAt fs j).1 := fun h => e (hi i j hil hj (by unfold keyR; rw [h]))
      have : ¬ ((rankN (entAt fs i).1 : Nat) : Int) = ((rankN (entAt fs j).1 : Nat) : Int) := by omega
      simp [Lit.sameKey, e, this]
  have hget : ∀ i (hi : i < fs.length), fs[i] = entAt fs i := fun i hi => by simp [entAt, List.getD, List.getElem?_eq_getElem hi]
  refine ⟨fun key' kl' hk' hl' => h.ent key' kl' hk' (by simp at hl'; exact hl'.1), ?_⟩
  rw [h.cnt]
  symm
  rw [countP_step (p := fun e => !left (.int .i64 (rankN e.1 : Nat)) && decide (e.1.getD x 0 = x)) (j := j) hj]
  · rw [hget j hj, hsame j hj, ← hkl, hl]
    simp
  · intro i hil hne
    rw [hget i hil, hsame i hil]
    simp [hne]
  · rw [hget j hj, ← hkl, hl]
    simp
theorem RL.done {fs : List Ent} {rs : List (Array Value)} {x t : Nat} {left : Lit → Bool} (h : RL fs rs x left t) (hl : ∀ kl, left kl = false) : t = fixN fs x := by
  rw [h.cnt]
  unfold fixN
  refine List.countP_congr fun e _ => ?_
  simp [hl]
end Go.Proofs.Ytnpdlfnhpghkmaa
