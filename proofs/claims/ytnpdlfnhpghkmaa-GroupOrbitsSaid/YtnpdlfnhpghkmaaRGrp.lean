/- timbref1.Group: what lies in memory. -/
import Derived.Test.YtnpdlfnhpghkmaaMember
import Derived.Test.YtnpdlfnhpghkmaaBase
import Derived.Deep.LoopGhost
namespace Go.Proofs.Ytnpdlfnhpghkmaa
open Go.RowKit Go.Maps

/-- Record r holds the entry e. -/
def RecE (w : World) (base : Nat) (r : Array Value) (e : Ent) : Prop := ∃ (A : Option Addr) (n c : Nat) (B : Option Addr) (m d : Nat), r = #[.slice A n c, .slice B m d] ∧ OwnI w base A n c (zs e.1) ∧ OwnI w base B m d e.2
section
variable {w w' : World} {base : Nat} {r : Array Value} {e : Ent}
theorem RecE.keep (h : RecE w base r e) (k : KeepT 3 w w') : RecE w' base r e := by
  obtain ⟨A, n, c, B, m, d, hr, h1, h2⟩ := h
  exact ⟨A, n, c, B, m, d, hr, k.ownI h1, k.ownI h2⟩
theorem RecE.size (h : RecE w base r e) : r.size = 2 := by
  obtain ⟨A, n, c, B, m, d, rfl, _, _⟩ := h
  rfl
theorem RecE.one (h : RecE w base r e) : ∀ u ∈ r.toList, u.oneCell' = true := by
  obtain ⟨A, n, c, B, m, d, rfl, _, _⟩ := h
  intro u hu
  simp only [List.mem_cons, List.not_mem_nil, or_false] at hu
  rcases hu with rfl | rfl <;> rfl
end

/-- The key of an entry. -/
def keyR (p : List Nat) : Value := .int .i64 (rankN p : Nat)
open Classical in
/-- The reference's map as a function: entries and their records. -/
noncomputable def gmF : List Ent → List (Array Value) → Value → Option Value
  | e :: f, r :: rs, key => if key = keyR e.1 then some (.agg r) else gmF f rs key
  | _, _, _ => none
theorem gmF_snoc_ne {e : Ent} {r : Array Value} {key : Value} (h : key ≠ keyR e.1) : ∀ f rs, f.length = rs.length → gmF (f ++ [e]) (rs ++ [r]) key = gmF f rs key
  | [], [], _ => by simp [gmF, h]
  | d :: f, s :: rs, hl => by
    simp only [List.cons_append, gmF]
    rw [gmF_snoc_ne h f rs (by simpa using hl)]
  | [], _ :: _, hl => by simp at hl
  | _ :: _, [], hl => by simp at hl
theorem gmF_snoc {e : Ent} {r : Array Value} : ∀ f rs, f.length = rs.length → (∀ d ∈ f, keyR d.1 ≠ keyR e.1) → gmF (f ++ [e]) (rs ++ [r]) (keyR e.1) = some (.agg r)
  | [], [], _, _ => by simp [gmF]
  | d :: f, s :: rs, hl, h => by
    simp only [List.cons_append, gmF]
    rw [if_neg (fun h' => h d (by simp) h'.symm)]
    exact gmF_snoc f rs (by simpa using hl) fun d hd => h d (by simp [hd])
  | [], _ :: _, hl, _ => by simp at hl
  | _ :: _, [], hl, _ => by simp at hl
theorem gmF_none {key : Value} : ∀ f rs, (∀ d ∈ f, keyR d.1 ≠ key) → gmF f rs key = none
  | [], _, _ => by simp [gmF]
  | _ :: _, [], _ => by simp [gmF]
  | d :: f, s :: rs, h => by
    simp only [gmF]
    rw [if_neg (fun h' => h d (by simp) h'.symm)]
    exact gmF_none f rs fun d hd => h d (by simp [hd])
theorem gmF_some : ∀ (f : List Ent) (rs : List (Array Value)) (j : Nat), f.length = rs.length → j < f.length → (∀ i, i < j → keyR (entAt f i).1 ≠ keyR (entAt f j).1) → gmF f rs (keyR (entAt f j).1) = some (.agg (rs.getD j #[]))
  | [], _, j, _, hj, _ => by simp at hj
  | _ :: _, [], _, hl, _, _ => by simp at hl
  | d :: f, s :: rs, 0, _, _, _ => by simp [gmF, entAt]
  | d :: f, s :: rs, j + 1, hl, hj, h => by
    have e1 : entAt (d :: f) (j + 1) = entAt f j := by simp [entAt]
    have h0 := h 0 (by omega)
    rw [e1] at h0 ⊢
    simp only [gmF]
    rw [if_neg (fun h' => h0 (by rw [h']; simp [entAt]))]
    rw [gmF_some f rs j (by simpa using hl) (by simpa using hj) fun i hi => by
      have := h (i + 1) (by omega)
      rwa [e1, show entAt (d :: f) (i + 1) = entAt f i by simp [entAt]] at this]
    simp

/-- The map, with all records. -/
structure GS (w wr : World) (b : Nat) (f : List Ent) (rs : List (Array Value)) : Prop where
  dict : Dict Try.prog 3 wr b f.length (gmF f rs)
  lb : w.heap.size ≤ b
  len : f.length = rs.length
  recs : ∀ j, j < f.length → RecE wr w.heap.size (rs.getD j #[]) (entAt f j)
  below : Below w.heap.size w wr
/-- A slice of records: those of the entries from number o on. -/
structure LS (w wr : World) (A : Option Addr) (n c : Nat) (f : List Ent) (o : Nat) (ls : List (Array Value)) : Prop where
  own : OwnR 35 2 wr w.heap.size A n c ls
  recs : ∀ a, a < n → RecE wr w.heap.size (ls.getD a #[]) (entAt f (o + a))
section
variable {w wr w2 : World} {b : Nat} {f : List Ent} {rs ls : List (Array Value)} {A : Option Addr} {n c o : Nat}
theorem GS.to (h : GS w wr b f rs) (hb : Below wr.heap.size wr w2) : GS w w2 b f rs :=
  ⟨h.dict.below hb, h.lb, h.len, fun j hj => (h.recs j hj).keep (KeepT.below hb), h.below.trans (hb.mono h.below.size)⟩
theorem LS.to (h : LS w wr A n c f o ls) (hb : Below wr.heap.size wr w2) : LS w w2 A n c f o ls :=
  ⟨h.own.below hb, fun a ha => (h.recs a ha).keep (KeepT.below hb)⟩
/-- Entries that come behind change nothing. -/
theorem LS.more (h : LS w wr A n c f o ls) (hn : o + n ≤ f.length) (g : List Ent) : LS w wr A n c (f ++ g) o ls :=
  ⟨h.own, fun a ha => by rw [entAt_left (by omega)]; exact h.recs a ha⟩
end
theorem info35 : (Try.prog.info? 35).map (fun i => (i.zero, i.size, i.bytes)) = some (some (.agg #[.slice none 0 0, .slice none 0 0]), 2, 48) := by kernel_rfl
theorem size35 (w : World) : (sizeOf 35).run Try.prog w = .ok 2 w := by kernel_rfl
theorem size35' (cs : Array Value) (h : cs.size = 2) : (Try.prog.info? 35).map (·.size) = some cs.size := by rw [h]; kernel_rfl
theorem zero35 (w : World) : (zeroValue 35).run Try.prog w = .ok (.agg #[.slice none 0 0, .slice none 0 0]) w := by kernel_rfl
theorem built35 (u v : Value) : (∃ A n c, u = .slice A n c) → (∃ A n c, v = .slice A n c) → Try.prog.built 35 [(0, u), (1, v)] = some #[u, v] := by
  rintro ⟨A, n, c, rfl⟩ ⟨B, m, d, rfl⟩
  kernel_rfl
theorem built35' (u : Value) : (∃ A n c, u = .slice A n c) → Try.prog.built 35 [(0, u)] = some #[u, .slice none 0 0] := by
  rintro ⟨A, n, c, rfl⟩
  kernel_rfl
theorem fillR1 (u v : Value) : Instr.fill (fun i => some (i * 2, 2)) ((Array.range (1 * 2)).map ((#[Value.slice none 0 0, Value.slice none 0 0] : Array Value)[· % (#[Value.slice none 0 0, Value.slice none 0 0] : Array Value).size]!)) [(0, .agg #[u, v])] = some #[u, v] := by kernel_rfl
theorem addr35 {o : Oper} {a : Act} {w : World} {x : Operand} {g k : Nat} (hk : k < 2) (ho : o.op = .fieldAddr 35 x k) (hx : a.eval x = .pointer (some ⟨g, 0, none⟩)) : Gives Try.prog o a w (.pointer (some ⟨g, k, none⟩)) := by
  have h23 : ∀ w, (sizeOf 23).run Try.prog w = .ok 1 w := fun w => by kernel_rfl
  rcases (by omega : k = 0 ∨ k = 1) with rfl | rfl
  · exact gives_fieldAddr (P := Try.prog) ho Try.underlying35 rfl hx (fun w => by simp [fieldPlace, Sem.run_bind, h23, Addr.add_mid])
  · exact gives_fieldAddr (P := Try.prog) ho Try.underlying35 rfl hx (fun w => by simp [fieldPlace, Sem.run_bind, h23, Addr.add_mid])
theorem gives_load35 {o : Oper} {a : Act} {w : World} {x : Operand} {g k : Nat} {cs : Array Value} (ho : o.op = .load 35 x) (hx : a.eval x = .pointer (some ⟨g, k, none⟩)) (hg : w.rangeAt g k cs.toList) (hs : cs.size = 2) : Gives Try.prog o a w (.agg cs) := by
  have := gives_loadMid (P := Try.prog) ho hx hg Try.underlying35 rfl (by rw [Array.length_toList]; exact size35' cs hs)
  simpa using this
theorem gives_load35r {o : Oper} {a : Act} {w : World} {x : Operand} {g : Nat} {cs : Array Value} (ho : o.op = .load 35 x) (hx : a.eval x = .pointer (some ⟨g, 0, none⟩)) (hb : Blk w g 35 cs) (hs : cs.size = 2) : Gives Try.prog o a w (.agg cs) := gives_loadRow ho hx hb Try.underlying35 rfl (size35' cs hs)
theorem keyOfR {p : List Nat} (h : p.length ≤ 9) : keyOf Try.prog 3 (keyR p) = some (.int .i64 (rankN p : Nat)) := keyOf_int_mk Try.underlying3 (by
  have := rankN_lt h
  simp [Lit.wf, IntKind.min, IntKind.max, IntKind.signed, IntKind.bits]
  omega)
theorem wpList_build_rec {ops : Array Oper} {rest : List Oper} {o : Oper} {a : Act} {w : World} {Q : Exit → Act → World → Prop} (hg : o.guard = none) (x : Operand) (ho : o.op = .buildSlice 72 1 #[(0, x)]) (u v : Value) (hx : a.eval x = .agg #[u, v])
    (h : wpList Try.prog ops Q rest (a.put o.dst (.slice (some ⟨w.heap.size, 0, none⟩) 1 1)) (w.alloc (.cells #[u, v] 35))) : wpList Try.prog ops Q (o :: rest) a w := by
  obtain ⟨i0, hi0, hz0, hz1, hz2⟩ := info_parts info35
  refine wpList_buildSlice hg 72 35 1 #[(0, x)] ho #[u, v] i0 _ Try.underlying72 hi0 hz0 (by rw [hz1]; omega) (by rw [hz1]; omega) ?_ h
  rw [hz1]
  have e : ((#[(0, x)] : Array (Nat × Operand)).map fun (i, x) => (i, a.eval x)).toList = [(0, .agg #[u, v])] := by simp [hx]
  rw [e]
  exact fillR1 u v
theorem OwnR.lit1 {T m base : Nat} (w : World) (r : Array Value) (hr : r.size = m) (hb : base ≤ w.heap.size) : OwnR T m (w.alloc (.cells r T)) base (some ⟨w.heap.size, 0, none⟩) 1 1 [r] := by
  refine ⟨?_, fun q hq => by obtain rfl : q = r := by simpa using hq
                             exact hr, rfl, by omega⟩
  have := World.ownsRow_lit (base := base) (e := T) (size := m) w r 1 hb (by unfold maxLen; omega) (by rw [hr]; omega)
  simpa [cellsR] using this
theorem rank_range6 : ∀ n, n ≤ 6 → rankN (List.range n) = 0 := by decide
theorem rankN_inj {n : Nat} {p q : List Nat} (hp : PM n p) (hq : PM n q) (h : rankN p = rankN q) : p = q := by
  rw [rankN_eq, rankN_eq] at h
  have hu : ∀ {a : List Nat}, PM n a → unr n (List.range n) (rkL a) = a := fun {a} ha => by
    have h1 : a.Perm (List.range n) := by have := ha.1.perm; rwa [ha.2] at this
    have := unr_rkL h1 (range_sorted n)
    simpa using this
  rw [← hu hp, ← hu hq, h]
end Go.Proofs.Ytnpdlfnhpghkmaa
