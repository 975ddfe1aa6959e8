/- timbref1.Planar's closure: all matchings, one after another; those that are planar are put down. -/
import Derived.Test.YthhcjnmlpojjeaaTlE1
import Derived.Test.YthhcjnmlpojjeaaTlI
import Derived.Test.YthhcjnmlpojjeaaVisit
import Derived.Test.YthhcjnmlpojjeaaCloneV
import Derived.Test.YthhcjnmlpojjeaaRepeat
import Derived.Test.YthhcjnmlpojjeaaBase1
namespace Go.Proofs.Ythhcjnmlpojjeaa
set_option linter.unusedVariables false
set_option linter.unusedSimpArgs false
open Go.RowKit

theorem OwnI.far {w : World} {base n c : Nat} {A : Option Addr} {xs : List Int} (h : OwnI w base A n c xs) {p : Addr} (hg : p.block < base) (u : Value) : OwnI (w.setCell p u) base A n c xs := by
  refine ⟨⟨h.own.1, ?_⟩, h.small⟩
  rcases h.own.2 with h2 | ⟨b, cap, cur, hv, hb, hh, r⟩
  · exact .inl h2
  · exact .inr ⟨b, cap, cur, hv, hb, (Below.heap_setCell w p u b (by omega)).trans hh, r⟩
theorem OwnV.far {w : World} {base n c : Nat} {A : Option Addr} {vs : List Value} (h : OwnV w base A n c vs) {p : Addr} (hg : p.block < base) (u : Value) : OwnV (w.setCell p u) base A n c vs := by
  refine ⟨⟨h.own.1, ?_⟩, h.small⟩
  rcases h.own.2 with h2 | ⟨b, cap, cur, hv, hb, hh, r⟩
  · exact .inl h2
  · exact .inr ⟨b, cap, cur, hv, hb, (Below.heap_setCell w p u b (by omega)).trans hh, r⟩
theorem RowsI.far {w : World} {base : Nat} {vs : List Value} {xss : List (List Int)} (h : RowsI w base vs xss) {p : Addr} (hg : p.block < base) (u : Value) : RowsI (w.setCell p u) base vs xss := ⟨h.len, fun i hi => by
  obtain ⟨A, n, c, e, ho⟩ := h.row i hi
  exact ⟨A, n, c, e, ho.far hg u⟩⟩

/-- Where Planar's boxes lie. -/
structure PnB (b0 base bn bd bo bf g : Nat) : Prop where
  hn : b0 ≤ bn ∧ bn < base
  hd : b0 ≤ bd ∧ bd < base
  ho : b0 ≤ bo ∧ bo < base
  hf : b0 ≤ bf ∧ bf < base
  hg : b0 ≤ g ∧ g < base
  ng : bn ≠ g ∧ bd ≠ g ∧ bo ≠ g ∧ bf ≠ g
  no : bn ≠ bo ∧ bd ≠ bo ∧ bf ≠ bo
/-- What the closure of Planar knows: d reads as D, out as os. -/
structure Pn (w0 : World) (base bn bd bo bf g n N c : Nat) (fv : Value) (D : List Nat) (os : List (List Nat)) (w : World) : Prop where
  blw : Below w0.heap.size w0 w
  size : base ≤ w.heap.size
  nb : Blk w bn 3 #[.int .i64 n]
  db : Blk w bd 22 #[.slice (some ⟨g, 0, none⟩) N c]
  fb : Blk w bf 1 #[fv]
  own : OwnI w 0 (some ⟨g, 0, none⟩) N c (toI D)
  outs : ∃ E en ec vs, Blk w bo 39 #[.slice E en ec] ∧ OwnV w base E en ec vs ∧ RowsI w base vs (os.map toI)
section
variable {w0 : World} {base bn bd bo bf g n N c : Nat} {fv : Value} {D : List Nat} {os : List (List Nat)} {w w' : World}
theorem OwnV.below' {A : Option Addr} {vs : List Value} (h : OwnV w base A n c vs) (hb : Below w.heap.size w w') : OwnV w' base A n c vs := h.keep (KeepT.below hb)
theorem Pn.below (h : Pn w0 base bn bd bo bf g n N c fv D os w) (hb : Below w.heap.size w w') : Pn w0 base bn bd bo bf g n N c fv D os w' := by
  refine ⟨h.blw.trans (hb.mono h.blw.size), Nat.le_trans h.size hb.size, h.nb.below hb h.nb.lt, h.db.below hb h.db.lt, h.fb.below hb h.fb.lt, h.own.below hb, ?_⟩
  obtain ⟨E, en, ec, vs, h1, h2, h3⟩ := h.outs
  exact ⟨E, en, ec, vs, h1.below hb h1.lt, h2.below' hb, h3.keep (KeepT.below hb)⟩
/-- A store into d. -/
theorem Pn.set_ (hB : PnB w0.heap.size base bn bd bo bf g) (h : Pn w0 base bn bd bo bf g n N c fv D os w) (j x : Nat) : Pn w0 base bn bd bo bf g n N c fv (D.set j x) os (w.setCell ⟨g, j, none⟩ (.int .i64 ((x : Int) - 1))) := by
  have hg := hB.hg
  have hng := hB.ng
  refine ⟨h.blw.setCell hg.1 _, by rw [World.size_setCell]; exact h.size, h.nb.far hng.1 _, h.db.far hng.2.1 _, h.fb.far hng.2.2.2 _, by rw [toI_set]; exact h.own.set_ j _, ?_⟩
  obtain ⟨E, en, ec, vs, h1, h2, h3⟩ := h.outs
  exact ⟨E, en, ec, vs, h1.far hng.2.2.1 _, h2.far hg.2 _, h3.far hg.2 _⟩
/-- One more row is put down. -/
theorem Pn.push (hB : PnB w0.heap.size base bn bd bo bf g) (h : Pn w0 base bn bd bo bf g n N c fv D os w) {E : Option Addr} {en ec : Nat} {vs : List Value} (h2 : OwnV w base E en ec vs) (h3 : RowsI w base vs (os.map toI)) {A : Option Addr} {d : Nat} (hr : OwnI w base A N d (toI D)) {A' : Option Addr} {c' : Nat}
    (hap : AppendedV w base E (en + 1) ec (vs ++ [.slice A N d]) A' c' w') : Pn w0 base bn bd bo bf g n N c fv D (os ++ [D]) (w'.setCell ⟨bo, 0, none⟩ (.slice A' (en + 1) c')) := by
  have hk : KeepT 3 w w' := KeepT.grown hap.grown (fun k hk => h2.block k (by rw [ownBlock_len E en (en + 1) ec ec]; exact hk))
  have hlt := fun k hk => (h2.lt k (by rw [ownBlock_len E en (en + 1) ec ec]; exact hk)).1
  have hne : ∀ b, b < base → some b ≠ (Value.slice E (en + 1) ec).ownBlock := fun b hb e => by have := hlt b e.symm; omega
  have hno := hB.no
  have hbo := hB.ho
  have hng := hB.ng
  obtain ⟨E1, en1, ec1, vs1, hb1, _, _⟩ := h.outs
  have hb' := hb1.grown hap.grown (hne bo hbo.2)
  have hb0 : w0.heap.size ≤ w.heap.size := h.blw.size
  have hs := hap.grown.size
  refine ⟨(h.blw.grown hap.grown hb0 (fun k hk => by have := hlt k hk; omega)).setCell hbo.1 _, by simp [World.setCell]; exact Nat.le_trans h.size hs, (h.nb.grown hap.grown (hne bn hB.hn.2)).far hno.1 _, (h.db.grown hap.grown (hne bd hB.hd.2)).far hno.2.1 _, (h.fb.grown hap.grown (hne bf hB.hf.2)).far hno.2.2 _, ?_, ⟨A', en + 1, c', _, hb'.set_ 0 _, hap.own.far hbo.2 _, ?_⟩⟩
  · have h4 := hk.ownI h.own
    refine ⟨⟨h4.own.1, ?_⟩, h4.small⟩
    rcases h4.own.2 with h5 | ⟨b, cap, cur, hv, hb, hh, r⟩
    · exact .inl h5
    · refine .inr ⟨b, cap, cur, hv, hb, (Below.heap_setCell w' _ _ b ?_).trans hh, r⟩
      simp only [Value.slice.injEq, Option.some.injEq, Addr.mk.injEq] at hv
      have : b = g := by omega
      show b ≠ bo
      omega
  · rw [List.map_append]
    exact ((h3.keep hk).snoc (hk.ownI hr)).far hbo.2 _
end
end Go.Proofs.Ythhcjnmlpojjeaa
