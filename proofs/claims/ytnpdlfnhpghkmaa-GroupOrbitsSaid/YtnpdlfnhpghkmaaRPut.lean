/- timbref1.Group: an entry is put. -/
import Derived.Test.YtnpdlfnhpghkmaaRGrp
namespace Go.Proofs.Ytnpdlfnhpghkmaa
open Go.RowKit Go.Maps

/-- The levels: L holds the entries from d on, NX those behind. -/
structure GL (w wr : World) (b : Nat) (f : List Ent) (rs : List (Array Value)) (L : Option Addr) (nL cL d : Nat) (ls : List (Array Value)) (NX : Option Addr) (nN cN : Nat) (ns : List (Array Value)) : Prop where
  gs : GS w wr b f rs
  la : LS w wr L nL cL f d ls
  nx : LS w wr NX nN cN f (d + nL) ns
  sum : d + nL + nN = f.length
  ne : ∀ k, (Value.slice NX nN cN).ownBlock = some k → some k ≠ (Value.slice L nL cL).ownBlock
theorem GL.to {w wr w2 : World} {b : Nat} {f : List Ent} {rs ls ns : List (Array Value)} {L NX : Option Addr} {nL cL d nN cN : Nat} (h : GL w wr b f rs L nL cL d ls NX nN cN ns) (hb : Below wr.heap.size wr w2) : GL w w2 b f rs L nL cL d ls NX nN cN ns :=
  ⟨h.gs.to hb, h.la.to hb, h.nx.to hb, h.sum, h.ne⟩

theorem RecE.put {w w7 : World} {base b s : Nat} {P : Program} {k : TypeId} {F : Value → Option Value} {r : Array Value} {e : Ent} (h : RecE w base r e) (hD : Dict P k w b s F) (hg : w.grownBy w7 (some b)) : RecE w7 base r e := by
  obtain ⟨A, n, c, B, m, d, hr, h1, h2⟩ := h
  exact ⟨A, n, c, B, m, d, hr, h1.kept hg (.inr (fun e => h1.ne_dict hD e.symm)), h2.kept hg (.inr (fun e => h2.ne_dict hD e.symm))⟩
theorem getD_snoc_lt {α : Type} {a : List α} {x z : α} {j : Nat} (h : j < a.length) : (a ++ [x]).getD j z = a.getD j z := by
  simp [List.getD, List.getElem?_append_left h]
theorem getD_snoc_eq {α : Type} {a : List α} {x z : α} {j : Nat} (h : j = a.length) : (a ++ [x]).getD j z = x := by
  subst h; simp [List.getD]
theorem GL.put {w wr w7 w8 : World} {b nL cL d nN cN c8 : Nat} {f : List Ent} {rs ls ns : List (Array Value)} {L NX A8 : Option Addr} {e : Ent} {r : Array Value}
    (h : GL w wr b f rs L nL cL d ls NX nN cN ns) (hr : RecE wr w.heap.size r e)
    (hg7 : wr.grownBy w7 (some b)) (hz7 : w7.heap.size = wr.heap.size) (hD7 : Dict Try.prog 3 w7 b (f.length + 1) (gmF (f ++ [e]) (rs ++ [r])))
    (hap : AppendedR 35 2 (w7.alloc (.cells r 35)) w.heap.size NX nN cN 1 (ns ++ [r]) A8 c8 w8) :
    GL w w8 b (f ++ [e]) (rs ++ [r]) L nL cL d ls A8 (nN + 1) c8 (ns ++ [r]) := by
  have ha : Below w7.heap.size w7 (w7.alloc (.cells r 35)) := (Below.refl _ _).alloc (Nat.le_refl _) _
  have nx7 : OwnR 35 2 (w7.alloc (.cells r 35)) w.heap.size NX nN cN ns := (h.nx.own.kept hg7 (.inr (fun e => h.nx.own.ne_dict h.gs.dict e.symm))).below ha
  have la7 : OwnR 35 2 (w7.alloc (.cells r 35)) w.heap.size L nL cL ls := (h.la.own.kept hg7 (.inr (fun e => h.la.own.ne_dict h.gs.dict e.symm))).below ha
  have hk : ∀ {r e}, RecE wr w.heap.size r e → RecE w8 w.heap.size r e := fun {r' e'} h1 => ((h1.put h.gs.dict hg7).keep (KeepT.alloc w7 (.cells r 35))).keep (KeepT.grown hap.grown fun k hk => by
    obtain ⟨_, _, cs, hb⟩ := nx7.block k hk
    exact ⟨35, cs, hb, by decide⟩)
  have hd7 : Dict Try.prog 3 (w7.alloc (.cells r 35)) b (f.length + 1) (gmF (f ++ [e]) (rs ++ [r])) := hD7.alloc _
  have hb7 : Below w.heap.size w (w7.alloc (.cells r 35)) := (h.gs.below.grown hg7 h.gs.below.size (fun j hj => by cases hj; exact h.gs.lb)).alloc (by have := h.gs.below.size; omega) _
  have hsum := h.sum
  refine ⟨⟨?_, h.gs.lb, by simp [h.gs.len], fun j hj => ?_, hb7.grown hap.grown hb7.size (fun j hj => (nx7.block j hj).1)⟩, ⟨?_, fun a ha' => ?_⟩, ⟨hap.own, fun a ha' => ?_⟩, by rw [List.length_append]; simp; omega, fun k hk' => ?_⟩
  · rw [List.length_append]
    exact hd7.kept hap.grown (nx7.ne_dict hd7)
  · rw [List.length_append] at hj
    simp only [List.length_cons, List.length_nil] at hj
    by_cases hj' : j < f.length
    · rw [entAt_left hj', getD_snoc_lt (by rw [← h.gs.len]; exact hj')]
      exact hk (h.gs.recs j hj')
    · obtain rfl : j = f.length := by omega
      rw [entAt_last, getD_snoc_eq h.gs.len]
      exact hk hr
  · refine la7.kept hap.grown ?_
    cases hB : (Value.slice L nL cL).ownBlock with
    | none => exact .inl rfl
    | some k =>
      refine .inr (fun e => ?_)
      exact h.ne k e.symm hB.symm
  · rw [entAt_left (by omega)]
    exact hk (h.la.recs a ha')
  · have hl := h.nx.own.len
    by_cases ha2 : a < nN
    · rw [entAt_left (by omega), getD_snoc_lt (by omega)]
      exact hk (h.nx.recs a ha2)
    · rw [show d + nL + a = f.length by omega, entAt_last, getD_snoc_eq (by omega)]
      exact hk hr
  · rcases hap.lies with h1 | h1
    · exact h.ne k (by rw [← h1]; exact hk')
    · rw [h1] at hk'
      injection hk' with hk'
      intro e
      have := (la7.block k e.symm).2.1
      omega
end Go.Proofs.Ytnpdlfnhpghkmaa
