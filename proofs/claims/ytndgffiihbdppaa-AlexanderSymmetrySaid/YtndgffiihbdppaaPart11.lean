/- Several texts in one. -/
import Derived.Test.YtndgffiihbdppaaPart1
import Derived.Test.YtndgffiihbdppaaPart9
import Derived.Test.YtndgffiihbdppaaBase1
import Derived.Test.YtndgffiihbdppaaPart10
import Derived.Test.YtndgffiihbdppaaPart6
import Derived.Deep.DeepCutAuto
/- Reading slices of anything within a set of blocks; slices that the call builds item by item. -/
namespace Go.Proofs.Ytndgffiihbdppaa
set_option linter.unusedVariables false
set_option linter.unusedSimpArgs false
open Go.RowKit

/-- The blocks of K are as they were. -/
def SameK (K : Nat → Prop) (w w' : World) : Prop := ∀ b, K b → w'.heap[b]? = w.heap[b]?
theorem SameK.cell {K : Nat → Prop} {w w' : World} (h : SameK K w w') {a : Addr} (ha : K a.block) : w'.cell? a = w.cell? a := World.cell?_of_block (w := w) (h a.block ha)
theorem SameK.below {B : Nat} {w w' : World} (h : Below B w w') : SameK (fun b => b < B) w w' := fun b hb => h.block b hb
theorem SameK.grown {w w' : World} {row : Option Nat} (h : w.grownBy w' row) : SameK (fun b => b < w.heap.size ∧ row ≠ some b) w w' := fun b hb => h.block b hb.1 (fun e => hb.2 e.symm)
theorem SameK.mono {K K' : Nat → Prop} {w w' : World} (h : SameK K w w') (hk : ∀ b, K' b → K b) : SameK K' w w' := fun b hb => h b (hk b hb)
theorem cell_lt {w : World} {a : Addr} {v : Value} (h : w.cell? a = some v) : a.block < w.heap.size := by
  rcases Nat.lt_or_ge a.block w.heap.size with h1 | h1
  · exact h1
  · unfold World.cell? at h
    rw [show w.heap[a.block]? = none by simpa using h1] at h
    cases h

/-- A reading of an item out of its cells: it looks at blocks of K alone. -/
abbrev RdI (α : Type) := (Nat → Prop) → World → List Value → α → Prop
structure RdOk {α : Type} (Q : RdI α) : Prop where
  keep : ∀ {K : Nat → Prop} {w w' : World} {us : List Value} {y : α}, SameK K w w' → w.heap.size ≤ w'.heap.size → Q K w us y → Q K w' us y
  mono : ∀ {K K' : Nat → Prop} {w : World} {us : List Value} {y : α}, (∀ b, b < w.heap.size → K b → K' b) → Q K w us y → Q K' w us y

/-- A slice that reads as ys; each item takes sz cells. -/
structure RdS {α : Type} (Q : RdI α) (sz : Nat) (K : Nat → Prop) (w : World) (A : Option Addr) (n c : Nat) (ys : List α) : Prop where
  len : ys.length = n
  small : n ≤ 17592186044416
  nil : A = none → n = 0 ∧ c = 0
  cap : n ≤ c
  mem : 0 < n → ∃ ad, A = some ad ∧ ad.block < w.heap.size ∧ K ad.block ∧ ∀ j (hj : j < ys.length), ∃ us : List Value, us.length = sz ∧ w.cell? (ad.add (j * sz)) = us[0]? ∧ (∀ i, i < sz → w.cell? ⟨(ad.add (j * sz)).block, (ad.add (j * sz)).off + i, none⟩ = us[i]?) ∧ Q K w us ys[j]
section
variable {α : Type} {Q : RdI α} {sz n c : Nat} {K K' : Nat → Prop} {w w' : World} {A : Option Addr} {ys : List α}
theorem RdS.keep (hQ : RdOk Q) (h : RdS Q sz K w A n c ys) (hk : SameK K w w') (hs : w.heap.size ≤ w'.heap.size) : RdS Q sz K w' A n c ys :=
  ⟨h.len, h.small, h.nil, h.cap, fun hn => by
    obtain ⟨ad, e, hl, hb, hc⟩ := h.mem hn
    refine ⟨ad, e, Nat.lt_of_lt_of_le hl hs, hb, fun j hj => ?_⟩
    obtain ⟨us, h1, h0, h2, h3⟩ := hc j hj
    exact ⟨us, h1, (hk.cell (by rw [block_of_add]; exact hb)).trans h0, fun i hi => (hk.cell (by show K (ad.add (j * sz)).block; rw [block_of_add]; exact hb)).trans (h2 i hi), hQ.keep hk hs h3⟩⟩
theorem RdS.mono (hQ : RdOk Q) (h : RdS Q sz K w A n c ys) (hk : ∀ b, b < w.heap.size → K b → K' b) : RdS Q sz K' w A n c ys :=
  ⟨h.len, h.small, h.nil, h.cap, fun hn => by
    obtain ⟨ad, e, hl, hb, hc⟩ := h.mem hn
    refine ⟨ad, e, hl, hk _ hl hb, fun j hj => ?_⟩
    obtain ⟨us, h1, h0, h2, h3⟩ := hc j hj
    exact ⟨us, h1, h0, h2, hQ.mono hk h3⟩⟩
theorem RdS.nil_ (Q : RdI α) (sz : Nat) (K : Nat → Prop) (w : World) : RdS Q sz K w none 0 0 [] := ⟨rfl, by omega, fun _ => ⟨rfl, rfl⟩, Nat.le_refl _, fun h => absurd h (by omega)⟩
end
/-- A slice of slices. -/
def QS {α : Type} (Q : RdI α) (sz : Nat) : RdI (List α) := fun K w us ys => ∃ B m d, us = [.slice B m d] ∧ RdS Q sz K w B m d ys
/-- A slice as it stands in the world: all that it reads is there. -/
abbrev Rd {α : Type} (Q : RdI α) (sz : Nat) (w : World) (A : Option Addr) (n c : Nat) (ys : List α) : Prop := RdS Q sz (fun b => b < w.heap.size) w A n c ys
theorem Rd.below {α : Type} {Q : RdI α} {sz n c : Nat} {w w' : World} {A : Option Addr} {ys : List α} (hQ : RdOk Q) (h : Rd Q sz w A n c ys) (hb : Below w.heap.size w w') : Rd Q sz w' A n c ys :=
  (h.keep hQ (SameK.below hb) hb.size).mono hQ fun b _ hl => Nat.lt_of_lt_of_le hl hb.size

structure SLK (K : Nat → Prop) (w : World) (A : Option Addr) (n c : Nat) (xs : List Int) : Prop where
  sl : SL w A n c xs
  inK : 0 < n → ∀ ad, A = some ad → K ad.block
theorem SLK.keep {K : Nat → Prop} {w w' : World} {A : Option Addr} {n c : Nat} {xs : List Int} (h : SLK K w A n c xs) (hk : SameK K w w') (hs : w.heap.size ≤ w'.heap.size) : SLK K w' A n c xs :=
  ⟨⟨⟨h.sl.il.len, h.sl.il.small, fun hn => by
    obtain ⟨ad, e, hl, hc⟩ := h.sl.il.mem hn
    refine ⟨ad, e, Nat.lt_of_lt_of_le hl hs, fun j hj => ?_⟩
    rw [← hc j hj]
    exact hk.cell (by rw [block_of_add]; exact h.inK hn ad e)⟩, h.sl.nil, h.sl.cap⟩, h.inK⟩
theorem SLK.mono {K K' : Nat → Prop} {w : World} {A : Option Addr} {n c : Nat} {xs : List Int} (h : SLK K w A n c xs) (hk : ∀ b, b < w.heap.size → K b → K' b) : SLK K' w A n c xs :=
  ⟨h.sl, fun hn ad e => hk _ (by
    obtain ⟨ad', e', hl, _⟩ := h.sl.il.mem hn
    rw [e] at e'; injection e' with e'; rw [e']; exact hl) (h.inK hn ad e)⟩
theorem SL.k {w : World} {A : Option Addr} {n c : Nat} {xs : List Int} (h : SL w A n c xs) : SLK (fun b => b < w.heap.size) w A n c xs := ⟨h, fun hn ad e => h.inside hn ad e⟩
section
variable {α : Type} {Q : RdI α} {n c k : Nat} {K : Nat → Prop} {w : World} {A : Option Addr} {ys : List α}
theorem RdS.inK (h : RdS Q n K w A c k ys) : 0 < c → ∀ ad, A = some ad → K ad.block ∧ ad.block < w.heap.size := fun hn ad e => by
  obtain ⟨ad', e', hl, hb, _⟩ := h.mem hn
  rw [e] at e'; injection e' with e'; subst e'; exact ⟨hb, hl⟩
end

/-! ### built by the call -/
/-- A slice of the call's own, with elements of type e and sz cells. -/
structure OwnG (e : TypeId) (sz : Nat) (w : World) (base : Nat) (A : Option Addr) (n c : Nat) (vs : List Value) : Prop where
  own : w.ownsRow base e sz (.slice A n c) n vs
  small : n ≤ 1000000
section
variable {e : TypeId} {sz base n c : Nat} {w w' : World} {A : Option Addr} {vs : List Value}
theorem OwnG.nil_ (e : TypeId) (sz : Nat) (w : World) (base : Nat) : OwnG e sz w base none 0 0 [] := ⟨World.ownsRow_nil _ _ _ _, by omega⟩
theorem OwnG.len (h : OwnG e sz w base A n c vs) : vs.length = n * sz := h.own.1
theorem OwnG.lt (h : OwnG e sz w base A n c vs) : ∀ k, (Value.slice A n c).ownBlock = some k → base ≤ k ∧ k < w.heap.size := h.own.lt
theorem OwnG.keep {K : Nat → Prop} (h : OwnG e sz w base A n c vs) (hk : SameK K w w') (hK : ∀ k, (Value.slice A n c).ownBlock = some k → K k) : OwnG e sz w' base A n c vs := by
  refine ⟨⟨h.own.1, ?_⟩, h.small⟩
  rcases h.own.2 with h2 | ⟨g, cap, cur, hv, hg, hh, r⟩
  · exact .inl h2
  · exact .inr ⟨g, cap, cur, hv, hg, (hk g (hK g (by rw [hv]; rfl))).trans hh, r⟩
theorem OwnG.below (h : OwnG e sz w base A n c vs) (hb : Below w.heap.size w w') : OwnG e sz w' base A n c vs := h.keep (SameK.below hb) fun k hk => (h.lt k hk).2
theorem OwnG.mono {b' : Nat} (h : OwnG e sz w base A n c vs) (hb : b' ≤ base) : OwnG e sz w b' A n c vs := by
  refine ⟨⟨h.own.1, ?_⟩, h.small⟩
  rcases h.own.2 with h2 | ⟨g, cap, cur, hv, hg, r⟩
  · exact .inl h2
  · exact .inr ⟨g, cap, cur, hv, by omega, r⟩
theorem OwnG.form (h : OwnG e sz w base A n c vs) (hn : 0 < n) : ∃ g, A = some ⟨g, 0, none⟩ ∧ base ≤ g ∧ g < w.heap.size := by
  rcases h.own.2 with ⟨_, h0⟩ | ⟨g, cap, cur, hv, hg, hh, _⟩
  · omega
  · simp only [Value.slice.injEq] at hv
    exact ⟨g, hv.1, hg, Blk.lt (w := w) (t := e) (cs := cur) hh⟩
theorem OwnG.cells (h : OwnG e sz w base A n c vs) : ∀ k, (Value.slice A n c).ownBlock = some k → ∃ cur : Array Value, base ≤ k ∧ w.heap[k]? = some (.cells cur e (0, 0)) := by
  intro k hk
  rcases h.own.2 with ⟨hv, _⟩ | ⟨g, cap, cur, hv, hb, hh, _⟩
  · rw [hv] at hk; cases hk
  · rw [hv] at hk
    injection hk with hk
    subst hk
    exact ⟨cur, hb, hh⟩
theorem OwnG.nilcap (h : OwnG e sz w base A n c vs) : (A = none → n = 0 ∧ c = 0) ∧ n ≤ c := by
  rcases h.own.2 with ⟨hv, h0⟩ | ⟨g, cap, cur, hv, _, _, hnc, _⟩
  · simp only [Value.slice.injEq] at hv
    exact ⟨fun _ => ⟨hv.2.1, hv.2.2⟩, by omega⟩
  · simp only [Value.slice.injEq, true_and] at hv
    exact ⟨fun e => (by rw [e] at hv; exact absurd hv.1 (by simp)), by omega⟩
theorem OwnG.cellAt {g : Nat} (h : OwnG e sz w base (some ⟨g, 0, none⟩) n c vs) {j : Nat} (hj : j < n * sz) : w.cell? ⟨g, j, none⟩ = vs[j]? := h.own.cellAt j hj
theorem OwnG.frozen {g : Nat} (h : OwnG e sz w base (some ⟨g, 0, none⟩) n c vs) (j : Nat) : w.frozen? ⟨g, j, none⟩ = false := h.own.frozenAt j
theorem OwnG.set_ {g : Nat} (h : OwnG e sz w base (some ⟨g, 0, none⟩) n c vs) (j : Nat) (u : Value) : OwnG e sz (w.setCell ⟨g, j, none⟩ u) base (some ⟨g, 0, none⟩) n c (vs.set j u) := ⟨(h.own.stored j u).1, h.small⟩
end
/-- What append leaves. -/
structure AppG (e : TypeId) (sz : Nat) (w : World) (base : Nat) (A : Option Addr) (n c : Nat) (vs : List Value) (A' : Option Addr) (c' : Nat) (w' : World) : Prop where
  own : OwnG e sz w' base A' n c' vs
  grown : w.grownBy w' (Value.slice A n c).ownBlock
  lies : (Value.slice A' n c').ownBlock = (Value.slice A n c).ownBlock ∨ (Value.slice A' n c').ownBlock = some w.heap.size
/-- A slice that the call builds: its own row of cells, and items that are read outside it. -/
structure Bld {α : Type} (L : Nat → Prop) (Q : RdI α) (e : TypeId) (sz : Nat) (w0 w : World) (A : Option Addr) (n c : Nat) (vs : List Value) (ys : List α) : Prop where
  own : OwnG e sz w w0.heap.size A n c vs
  len : ys.length = n
  row : ∀ j (hj : j < ys.length), Q (fun b => L b ∧ b < w.heap.size ∧ (Value.slice A n c).ownBlock ≠ some b) w ((vs.drop (j * sz)).take sz) ys[j]
  below : Below w0.heap.size w0 w
section
variable {α : Type} {L : Nat → Prop} {Q : RdI α} {e : TypeId} {sz n c : Nat} {w0 w w' : World} {A : Option Addr} {vs : List Value} {ys : List α}
theorem Bld.start (L : Nat → Prop) (Q : RdI α) (e : TypeId) (sz : Nat) (w0 : World) : Bld L Q e sz w0 w0 none 0 0 [] [] := ⟨OwnG.nil_ _ _ _ _, rfl, fun j hj => by simp at hj, Below.refl _ _⟩
theorem Bld.to (hQ : RdOk Q) (h : Bld L Q e sz w0 w A n c vs ys) (hb : Below w.heap.size w w') : Bld L Q e sz w0 w' A n c vs ys :=
  ⟨h.own.below hb, h.len, fun j hj => hQ.mono (fun b _ hb2 => ⟨hb2.1, Nat.lt_of_lt_of_le hb2.2.1 hb.size, hb2.2.2⟩) (hQ.keep ((SameK.below hb).mono fun b hb2 => hb2.2.1) hb.size (h.row j hj)), h.below.trans (hb.mono h.below.size)⟩
/-- One item more. -/
theorem Bld.add (hQ : RdOk Q) {A9 : Option Addr} {c9 : Nat} {w9 : World} {us : List Value} {y : α} (h : Bld L Q e sz w0 w A n c vs ys) (hl : us.length = sz)
    (hy : Q (fun b => L b ∧ b < w.heap.size ∧ (Value.slice A n c).ownBlock ≠ some b) w us y) (happ : AppG e sz w w0.heap.size A (n + 1) c (vs ++ us) A9 c9 w9) :
    Bld L Q e sz w0 w9 A9 (n + 1) c9 (vs ++ us) (ys ++ [y]) := by
  have hown : (Value.slice A (n + 1) c).ownBlock = (Value.slice A n c).ownBlock := ownBlock_len A (n + 1) n c c
  have hsame : SameK (fun b => L b ∧ b < w.heap.size ∧ (Value.slice A n c).ownBlock ≠ some b) w w9 := by
    have := SameK.grown happ.grown
    rw [hown] at this
    exact this.mono fun b hb => hb.2
  have hup : ∀ b, b < w9.heap.size → (L b ∧ b < w.heap.size ∧ (Value.slice A n c).ownBlock ≠ some b) → L b ∧ b < w9.heap.size ∧ (Value.slice A9 (n + 1) c9).ownBlock ≠ some b := fun b hb h2 => ⟨h2.1, hb, by
    rcases happ.lies with h3 | h3
    · rw [h3, hown]; exact h2.2.2
    · rw [h3]; intro e; injection e with e; omega⟩
  have hvl := h.own.len
  refine ⟨happ.own, by simp [h.len], fun j hj => ?_, h.below.grown happ.grown h.below.size (fun g hg => (h.own.lt g (by rw [← hown]; exact hg)).1)⟩
  have hj2 : j < n + 1 := by simp [h.len] at hj; exact hj
  by_cases hjn : j < n
  · have hj3 : j < ys.length := by rw [h.len]; exact hjn
    have hm : (j + 1) * sz ≤ n * sz := Nat.mul_le_mul_right _ hjn
    rw [Nat.add_mul, Nat.one_mul] at hm
    have e1 : ((vs ++ us).drop (j * sz)).take sz = (vs.drop (j * sz)).take sz := by
      rw [List.drop_append_of_le_length (by omega), List.take_append_of_le_length (by rw [List.length_drop]; omega)]
    have e2 : (ys ++ [y])[j] = ys[j] := List.getElem_append_left hj3
    rw [e1, e2]
    exact hQ.mono hup (hQ.keep hsame happ.grown.size (h.row j hj3))
  · have hjn2 : j = n := by omega
    subst hjn2
    have e1 : ((vs ++ us).drop (j * sz)).take sz = us := by
      rw [List.drop_append, show vs.drop (j * sz) = [] from List.drop_eq_nil_of_le (by omega), hvl, Nat.sub_self, List.drop_zero, List.nil_append, List.take_of_length_le (by omega)]
    have e2 : (ys ++ [y])[j] = y := by rw [List.getElem_append_right (by rw [h.len]; exact Nat.le_refl _)]; simp
    rw [e1, e2]
    exact hQ.mono hup (hQ.keep hsame happ.grown.size hy)
theorem Bld.rdK (hQ : RdOk Q) (hs0 : 0 < sz) (hL : ∀ b, w0.heap.size ≤ b → L b) (h : Bld L Q e sz w0 w A n c vs ys) : RdS Q sz (fun b => L b ∧ b < w.heap.size) w A n c ys := by
  have hvl := h.own.len
  refine ⟨h.len, by have := h.own.small; omega, h.own.nilcap.1, h.own.nilcap.2, fun hn => ?_⟩
  obtain ⟨g, rfl, hgb, hl⟩ := h.own.form hn
  refine ⟨_, rfl, hl, ⟨hL _ hgb, hl⟩, fun j hj => ⟨(vs.drop (j * sz)).take sz, ?_, ?_, ?_, hQ.mono (fun b hb h2 => ⟨h2.1, hb⟩) (h.row j hj)⟩⟩
  · have hj2 := h.len
    have hm : (j + 1) * sz ≤ n * sz := Nat.mul_le_mul_right _ (by omega)
    rw [Nat.add_mul, Nat.one_mul] at hm
    rw [List.length_take, List.length_drop]; omega
  · have hj2 := h.len
    have hm : (j + 1) * sz ≤ n * sz := Nat.mul_le_mul_right _ (by omega)
    rw [Nat.add_mul, Nat.one_mul] at hm
    rw [show (⟨g, 0, none⟩ : Addr).add (j * sz) = ⟨g, j * sz, none⟩ by unfold Addr.add; split <;> simp_all, h.own.cellAt (by omega)]
    rw [List.getElem?_take, if_pos hs0, List.getElem?_drop, Nat.add_zero]
  · intro i hi
    have hj2 := h.len
    have hm : (j + 1) * sz ≤ n * sz := Nat.mul_le_mul_right _ (by omega)
    rw [Nat.add_mul, Nat.one_mul] at hm
    rw [show (⟨g, 0, none⟩ : Addr).add (j * sz) = ⟨g, j * sz, none⟩ by unfold Addr.add; split <;> simp_all]
    show w.cell? ⟨g, j * sz + i, none⟩ = _
    rw [h.own.cellAt (by omega), List.getElem?_take, if_pos hi, List.getElem?_drop]
theorem Bld.rd (hQ : RdOk Q) (hs0 : 0 < sz) (hL : ∀ b, w0.heap.size ≤ b → L b) (h : Bld L Q e sz w0 w A n c vs ys) : Rd Q sz w A n c ys := (h.rdK hQ hs0 hL).mono hQ fun b hb _ => hb
/-- Outside a set of old blocks: everything that is read is new. -/
theorem Bld.far (h : Bld L Q e sz w0 w A n c vs ys) : 0 < n → ∀ ad, A = some ad → w0.heap.size ≤ ad.block := fun hn ad e => by
  obtain ⟨g, e2, hg, _⟩ := h.own.form hn
  rw [e] at e2; injection e2 with e2; rw [e2]; exact hg
end
end Go.Proofs.Ytndgffiihbdppaa
/- Package polymatrix: expand. -/
namespace Go.Proofs.Ytndgffiihbdppaa
set_option linter.unusedVariables false
set_option linter.unusedSimpArgs false
open Go.RowKit

theorem cell_at_var {w : World} {a : Addr} {v : Value} (h : w.cell? a = some v) : ∃ g o, a = ⟨g, o, none⟩ := by
  obtain ⟨g, o, p⟩ := a
  cases p with
  | none => exact ⟨g, o, rfl⟩
  | some p =>
    exfalso
    unfold World.cell? at h
    split at h
    · simp at h
    · cases h
theorem rangeAt_two {z : World} {g o : Nat} {u v : Value} (h0 : z.cell? ⟨g, o, none⟩ = some u) (h1 : z.cell? ⟨g, o + 1, none⟩ = some v) : z.rangeAt g o [u, v] := fun j x hx => by
  match j, hx with
  | 0, hx => injection hx with hx; rw [← hx]; exact h0
  | 1, hx => injection hx with hx; rw [← hx]; exact h1
theorem SPP.tail_ {w : World} {A : Option Addr} {n c : Nat} {pss : List (List Po)} (h : SPP w A n c pss) (h1 : 1 ≤ n) : SPP w (cutA A 1 c) (n - 1) (c - 1) (pss.drop 1) := by
  have hl := h.len
  have hc := h.cap
  refine ⟨by simp; omega, by have := h.small; omega, fun e => cutA_none h.nil h1 (Nat.le_refl n) e, by omega, fun h0 => ?_⟩
  obtain ⟨ad, rfl, hlt, hcl⟩ := h.mem (by omega)
  unfold cutA
  rw [if_neg (by omega)]
  refine ⟨ad.add 1, rfl, by rw [block_of_add]; exact hlt, fun j hj => ?_⟩
  rw [add_of_add]
  obtain ⟨B, m, d, q1, q2⟩ := hcl (1 + j) (by omega)
  refine ⟨B, m, d, q1, ?_⟩
  rw [show (pss.drop 1).getD j [] = pss.getD (1 + j) [] by simp [List.getD, List.getElem?_drop, Nat.add_comm]]
  exact q2
theorem SPP.blk {w : World} {A : Option Addr} {n c : Nat} {pss : List (List Po)} (h : SPP w A n c pss) (h1 : 1 ≤ n) : ∀ ad, A = some ad → ad.block < w.heap.size := fun ad e => by
  obtain ⟨ad2, e2, hl, _⟩ := h.mem (by omega)
  rw [e] at e2
  cases e2
  exact hl

end Go.Proofs.Ytndgffiihbdppaa
/- Package alexander: rowTimesColumn. (Written by tools/gen_al1.py.) -/
namespace Go.Proofs.Ytndgffiihbdppaa
set_option linter.unusedVariables false
set_option linter.unusedSimpArgs false
open Go.RowKit

theorem eAlMul : ∀ args w, (callFunc 51 args).run Try.prog w = .ok (.enter 51 args) w := enters (fn := Try.f51) (by kernel_rfl) (by kernel_rfl) (by kernel_rfl)
theorem eAlSub : ∀ args w, (callFunc 81 args).run Try.prog w = .ok (.enter 81 args) w := enters (fn := Try.f81) (by kernel_rfl) (by kernel_rfl) (by kernel_rfl)
theorem al_mul (F : PolyC) {x y : LP} (hx : LP.Rt x) (hy : LP.Rt y) (hz : LP.Rt (x * y)) (w : World) (A : Option Addr) (n c : Nat) (B : Option Addr) (m d : Nat) (ha : SL w A n c (LP.canon x).2) (hb : SL w B m d (LP.canon y).2) :
    Calls Try.prog 51 #[PV (LP.canon x).1 A n c, PV (LP.canon y).1 B m d] w (GivesPE w (0, (LP.canon (x * y)).1, (LP.canon (x * y)).2)) := by
  have h := F.mul (LP.canon x).1 A n c (LP.canon x).2 (LP.canon y).1 B m d (LP.canon y).2 w ha hb hx.wf hy.wf
  rw [LP.mulR_canon hx hy hz] at h
  exact h
theorem al_add (F : PolyC) {x y : LP} (hx : LP.Rt x) (hy : LP.Rt y) (hz : LP.Rt (x + y)) (w : World) (A : Option Addr) (n c : Nat) (B : Option Addr) (m d : Nat) (ha : SL w A n c (LP.canon x).2) (hb : SL w B m d (LP.canon y).2) :
    Calls Try.prog 80 #[PV (LP.canon x).1 A n c, PV (LP.canon y).1 B m d] w (GivesPE w (0, (LP.canon (x + y)).1, (LP.canon (x + y)).2)) := by
  have h := F.add (LP.canon x).1 A n c (LP.canon x).2 (LP.canon y).1 B m d (LP.canon y).2 w ha hb hx.wf hy.wf
  rw [LP.addR_canon hx hy hz] at h
  exact h
theorem al_sub (F : PolyC) {x y : LP} (hx : LP.Rt x) (hy : LP.Rt y) (hz : LP.Rt (x + -y)) (w : World) (A : Option Addr) (n c : Nat) (B : Option Addr) (m d : Nat) (ha : SL w A n c (LP.canon x).2) (hb : SL w B m d (LP.canon y).2) :
    Calls Try.prog 81 #[PV (LP.canon x).1 A n c, PV (LP.canon y).1 B m d] w (GivesPE w (0, (LP.canon (x + -y)).1, (LP.canon (x + -y)).2)) := by
  have h := F.sub (LP.canon x).1 A n c (LP.canon x).2 (LP.canon y).1 B m d (LP.canon y).2 w ha hb hx.wf hy.wf
  rw [LP.subR_canon hx hy hz] at h
  exact h

set_option maxRecDepth 100000 in
set_option maxHeartbeats 8000000 in
theorem rtc_any (F : PolyC) (A : Option Addr) (n c : Nat) (ps : List Po) (B : Option Addr) (m d : Nat) (pss : List (List Po)) (j : Nat) (X Y : Nat → LP) (w : World) (ha : SPo w A n c ps) (hb : SPP w B m d pss) (hnm : n ≤ m)
    (hX : ∀ k, k < n → ps.getD k (0, []) = cP (X k)) (hY : ∀ k, k < n → (pss.getD k []).getD j (0, []) = cP (Y k)) (hl : ∀ k, k < n → j < (pss.getD k []).length)
    (rX : ∀ k, k < n → LP.Rt (X k)) (rY : ∀ k, k < n → LP.Rt (Y k)) (rP : ∀ k, k < n → LP.Rt (X k * Y k)) (rS : ∀ k, k ≤ n → LP.Rt (CR.sumN k fun i => X i * Y i)) :
    Calls Try.prog 83 #[.slice A n c, .slice B m d, .int .i64 j] w (GivesP w (LP.canon (CR.sumN n fun i => X i * Y i)).1 (LP.canon (CR.sumN n fun i => X i * Y i)).2) := by
  have HM := hide (fun k (hk : k < n) => al_mul F (rX k hk) (rY k hk) (rP k hk))
  obtain ⟨S, hS⟩ : ∃ S : Nat → LP, (fun k => CR.sumN k fun i => X i * Y i) = S := ⟨_, rfl⟩
  have hS0 : LP.canon (S 0) = (0, []) := by rw [← hS]; exact LP.canon_zero
  have HD := hide (fun k (hk : k < n) => (by
    have h := al_add F (rS k (by omega)) (rP k hk) (by have := rS (k + 1) hk; rwa [CR.sumN_succ] at this)
    rw [← CR.sumN_succ k (fun i => X i * Y i)] at h
    have e : ∀ i, (CR.sumN i fun i => X i * Y i) = S i := fun i => congrFun hS i
    rw [e, e] at h
    exact h :
    ∀ (w : World) (A : Option Addr) (n c : Nat) (B : Option Addr) (m d : Nat), SL w A n c (LP.canon (S k)).2 → SL w B m d (LP.canon (X k * Y k)).2 → Calls Try.prog 80 #[PV (LP.canon (S k)).1 A n c, PV (LP.canon (X k * Y k)).1 B m d] w (GivesPE w (0, (LP.canon (S (k + 1))).1, (LP.canon (S (k + 1))).2))))
  have eS : (CR.sumN n fun i => X i * Y i) = S n := congrFun hS n
  rw [eS]
  have HA := hide ha
  have HB := hide hb
  have HXX := hide hX
  have HYY := hide hY
  have HLL := hide hl
  have HNM := hide hnm
  have hsm := ha.small
  have HS0 := hide hS0
  clear ha hb hX hY hl rX rY rP rS hS eS F hS0 hnm
  obtain ⟨W0, hW0⟩ : ∃ W, (w.alloc (.cells #[.int .i64 0, .slice none 0 0] 36)).alloc (.cells #[.int .i64 0, .slice none 0 0] 36) = W := ⟨_, rfl⟩
  have hb0 : Below w.heap.size w W0 := by
    rw [← hW0]
    exact ((Below.refl _ _).alloc (Nat.le_refl _) _).alloc (by simp) _
  have K6 : Hid (Blk W0 w.heap.size 36 #[.int .i64 0, .slice none 0 0]) := hide (by rw [← hW0]; exact (Blk.new w _ _).alloc _)
  have K7 : Hid (Blk W0 (w.heap.size + 1) 36 #[.int .i64 (LP.canon (S 0)).1, .slice none 0 0]) := hide (by
    rw [← hW0, HS0.out]
    have h := Blk.new (w.alloc (.cells #[.int .i64 0, .slice none 0 0] 36)) 36 #[.int .i64 0, .slice none 0 0]
    simpa using h)
  have HW := hide hb0
  have SR : Hid (SL W0 none 0 0 (LP.canon (S 0)).2) := hide (by rw [HS0.out]; exact SL.nil_ _)
  clear hb0
  go_enter Try.func83, Try.ntmps83
  go_upto_region 2 with fail
  clear HS0
  obtain ⟨b6, hb6⟩ : ∃ b, w.heap.size = b := ⟨_, rfl⟩
  rw [hb6] at K6 K7 ⊢
  obtain ⟨b7, hb7⟩ : ∃ b, b6 + 1 = b := ⟨_, rfl⟩
  rw [hb7] at K7 ⊢
  have h67 : b6 ≠ b7 := by omega
  have HWB : Hid (w.heap.size ≤ b6 ∧ w.heap.size ≤ b7) := hide (by omega)
  clear hW0 hb6 hb7
  go_wp2_with fail
  go_loopw [14] (fun iv wx => ∃ (k : Nat) (R : Option Addr) (rn rc : Nat), iv = .int .i64 k ∧ k ≤ n ∧ Hid (Blk wx b6 36 #[.int .i64 0, .slice none 0 0]) ∧ Hid (Blk wx b7 36 #[.int .i64 (LP.canon (S k)).1, .slice R rn rc]) ∧ Hid (SL wx R rn rc (LP.canon (S k)).2) ∧ Hid (0 < rn → ∀ ad, R = some ad → b6 < ad.block ∧ b7 < ad.block) ∧ Hid (Below w.heap.size w wx)) (fun iv _ => n - (intOf iv).toNat)
  case atStart => exact ⟨0, none, 0, 0, rfl, Nat.zero_le _, K6, K7, SR, hide (fun h => absurd h (by omega)), HW⟩
  case round =>
    clear K6 K7 HW SR
    obtain ⟨k, R, rn, rc, rfl, hk, K6, K7, SR, HN, HW⟩ := hrel
    by_cases hlt : k < n
    · obtain ⟨ad, P, pn, pc, hA, q0, q1, sp, _⟩ := (HA.out.below HW.out).at_ hlt
      obtain ⟨bd, Q, qn, qc, hB, q2, sq⟩ := (HB.out.below HW.out).at_ (Nat.lt_of_lt_of_le hlt HNM.out)
      have hjq : j < qn := by rw [← sq.len]; exact HLL.out k hlt
      obtain ⟨cd, T, tn, tc, hQ, q3, q4, st, _⟩ := sq.at_ hjq
      rw [HXX.out k hlt] at q0 sp
      rw [HYY.out k hlt] at q3 st
      have HMK := hide (HM.out k hlt)
      have HDK := hide (HD.out k hlt)
      subst hA
      subst hB
      subst hQ
      rw [show bd.add k = bd.add (k * 1) by rw [Nat.mul_one]] at q2
      dsimp only [cP] at q0 sp q3 st
      generalize X k * Y k = xy at *
      generalize X k = x at *
      generalize Y k = y at *
      have hb : Below wr.heap.size wr (wr.alloc (.cells #[.int .i64 (LP.canon x).1, .slice P pn pc] 36)) := (Below.refl _ _).alloc (Nat.le_refl _) _
      have Q2 := hide ((hb.cell (p := bd.add (k * 1)) (cell_lt q2)).trans q2)
      have Q3 := hide ((hb.cell (p := cd.add (j * 2)) (cell_lt q3)).trans q3)
      have Q4 := hide ((hb.cell (p := ⟨(cd.add (j * 2)).block, (cd.add (j * 2)).off + 1, none⟩) (cell_lt q4)).trans q4)
      have SP := hide (sp.below hb)
      have ST := hide (st.below hb)
      replace SR := hide (SR.out.below hb)
      replace HW := hide (HW.out.trans (hb.mono HW.out.size))
      have l6 := K6.out.lt
      have l7 := K7.out.lt
      replace K6 := hide (K6.out.below hb l6)
      replace K7 := hide (K7.out.below hb l7)
      have BP := hide (Blk.new wr 36 #[.int .i64 (LP.canon x).1, .slice P pn pc])
      have HJQ := hide hjq
      have HKM := hide (Nat.lt_of_lt_of_le hlt HNM.out)
      clear sp st sq q2 q3 q4 hb hjq l6 l7
      go_upto_region 5 with fail
      obtain ⟨bp, hq⟩ : ∃ q, wr.heap.size = q := ⟨_, rfl⟩
      obtain ⟨w1, hw⟩ : ∃ wq, wr.alloc (.cells #[.int .i64 (LP.canon x).1, .slice P pn pc] 36) = wq := ⟨_, rfl⟩
      rw [hw] at Q2 Q3 Q4 SP ST SR HW K6 K7 BP ⊢
      rw [hq] at BP ⊢
      clear hw hq q0 q1
      have LP0 := hide BP.out.lt
      obtain ⟨g3, o3, h3⟩ := cell_at_var Q3.out
      rw [h3] at Q3 Q4
      have HL2 := hide (cell_lt Q2.out)
      have HL3 := hide (cell_lt Q3.out)
      go_cut [10, 11, 19, 20, 21, 22, 23, 24, 25, 26, 27, 28, 29, 30] (fun v u _ _ _ _ _ _ _ _ _ _ _ _ wx => ∃ bG G gn gc, v = .pointer (some ⟨bG, 0, none⟩) ∧ u = .int .i64 0 ∧ Blk wx bG 36 #[.int .i64 (LP.canon xy).1, .slice G gn gc] ∧ SL wx G gn gc (LP.canon xy).2 ∧ Below w1.heap.size w1 wx)
      case first =>
        refine wp_region_noPanic ?_
        refine wp_region_held_drew (S := fun x => Below w1.heap.size w1 x) (by kernel_rfl) (Below.refl _ _).drew (fun hS0 => ?_)
        refine wpAnyH_tk 0 (v := PV (LP.canon x).1 P pn pc) rfl (by kernel_rfl) (by kernel_rfl) (by kernel_rfl) (yi rfl fun w' hw' => gives_loadRow rfl rfl (BP.out.below hw' LP0.out) Try.underlying36 (by kernel_rfl) (by kernel_rfl)) hS0 ?_
        go_frame
        refine wpAnyH_tk 1 (v := .slice (some bd) m d) rfl (by kernel_rfl) (by kernel_rfl) (by kernel_rfl) (yi rfl fun w' hw' => gives_move (.inl rfl) rfl) hS0 ?_
        go_frame
        refine wpAnyH_tk 2 (v := .int .i64 k) rfl (by kernel_rfl) (by kernel_rfl) (by kernel_rfl) (yi rfl fun w' hw' => gives_move (.inl rfl) rfl) hS0 ?_
        go_frame
        refine wpAnyH_tk 3 (v := .pointer (some (bd.add (k * 1)))) rfl (by kernel_rfl) (by kernel_rfl) (by kernel_rfl) (yi rfl fun w' hw' => gives_indexSlice rfl Try.underlying68 (fun w => by kernel_rfl) rfl rfl HKM.out) hS0 ?_
        go_frame
        refine wpAnyH_tk 4 (v := .slice (some cd) qn qc) rfl (by kernel_rfl) (by kernel_rfl) (by kernel_rfl) (yi rfl fun w' hw' => gives_load1 rfl (by kernel_rfl) rfl ((hw'.cell (p := bd.add (k * 1)) HL2.out).trans Q2.out)) hS0 ?_
        go_frame
        refine wpAnyH_tk 5 (v := .int .i64 j) rfl (by kernel_rfl) (by kernel_rfl) (by kernel_rfl) (yi rfl fun w' hw' => gives_move (.inl rfl) rfl) hS0 ?_
        go_frame
        refine wpAnyH_tk 6 (v := .pointer (some (cd.add (j * 2)))) rfl (by kernel_rfl) (by kernel_rfl) (by kernel_rfl) (yi rfl fun w' hw' => gives_indexSlice rfl Try.underlying89 (fun w => by kernel_rfl) rfl rfl HJQ.out) hS0 ?_
        go_frame
        rw [h3]
        refine wpAnyH_tk 7 (v := PV (LP.canon y).1 T tn tc) rfl (by kernel_rfl) (by kernel_rfl) (by kernel_rfl) (yi rfl fun w' hw' => gives_loadMid (cs := [.int .i64 (LP.canon y).1, .slice T tn tc]) rfl rfl (rangeAt_two ((hw'.cell (p := ⟨g3, o3, none⟩) HL3.out).trans Q3.out) ((hw'.cell (p := ⟨g3, o3 + 1, none⟩) HL3.out).trans Q4.out)) Try.underlying36 (by kernel_rfl) (by kernel_rfl)) hS0 ?_
        go_frame
        refine wpAnyH_2 8 12 rfl rfl (by kernel_rfl) ?_ ?_
        · refine wp_call [PV (LP.canon x).1 P pn pc, PV (LP.canon y).1 T tn tc] rfl rfl eAlMul rfl ((HMK.out w1.drew P pn pc T tn tc (SP.out.below hS0) (ST.out.below hS0)).mono ?_)
          rintro e u1 ⟨G, gn, gc, rfl, hs, hN, hb⟩
          dsimp only at hs ⊢
          have hS1 : Below w1.heap.size w1 u1 := hS0.trans (hb.mono hS0.size)
          have SG := hide hs
          clear hb hs
          refine ⟨_, rfl, hS1, ?_⟩
          go_frame
          refine wpAnyH_tk 9 (v := .tuple #[PV (LP.canon xy).1 G gn gc, .int .i64 0]) rfl (by kernel_rfl) (by kernel_rfl) (by kernel_rfl) (yi rfl fun w' hw' => gives_move (.inl rfl) rfl) hS1 ?_
          go_frame
          refine wpAnyH_tk 10 (v := PV (LP.canon xy).1 G gn gc) rfl (by kernel_rfl) (by kernel_rfl) (by kernel_rfl) (yi rfl fun w' hw' => gives_extract rfl rfl rfl) hS1 ?_
          go_frame
          refine wpAnyH_tk 11 (v := .int .i64 0) rfl (by kernel_rfl) (by kernel_rfl) (by kernel_rfl) (yi rfl fun w' hw' => gives_extract rfl rfl rfl) hS1 ?_
          go_frame
          refine wpAnyH_1 12 rfl (by kernel_rfl) ?_
          have hS2 : Below w1.heap.size w1 (u1.alloc (.cells #[.int .i64 0, .slice none 0 0] 36)) := hS1.alloc hS1.size _
          have hb : Below u1.heap.size u1 (u1.alloc (.cells #[.int .i64 0, .slice none 0 0] 36)) := (Below.refl _ _).alloc (Nat.le_refl _) _
          have g_bG : w1.heap.size ≤ u1.heap.size := hS1.size
          have ne_bG : 0 < gn → ∀ ad, G = some ad → ad.block ≠ u1.heap.size := fun h ad e => by obtain ⟨ad2, e2, hl, _⟩ := SG.out.il.mem h; rw [e] at e2; cases e2; omega
          replace SG := hide (SG.out.below hb)
          have BG := hide (Blk.new u1 36 #[.int .i64 0, .slice none 0 0])
          refine wp_alloc (z := .agg #[.int .i64 0, .slice none 0 0]) (cs := #[.int .i64 0, .slice none 0 0]) rfl (by kernel_rfl) rfl ⟨hS2, ?_⟩
          obtain ⟨bG, hq⟩ : ∃ q, u1.heap.size = q := ⟨_, rfl⟩
          rw [hq] at BG g_bG ne_bG ⊢
          obtain ⟨u2, hw⟩ : ∃ x, u1.alloc (.cells #[.int .i64 0, .slice none 0 0] 36) = x := ⟨_, rfl⟩
          rw [hw] at hS2 BG SG ⊢
          clear hb hw hq
          go_frame
          refine wpAnyH_1 13 rfl (by kernel_rfl) ?_
          have hS3 : Below w1.heap.size w1 (u2.setRow bG #[.int .i64 (LP.canon xy).1, .slice G gn gc]) := Below.setRow_ hS2 g_bG _
          refine wp_storeRow rfl rfl rfl BG.out (by kernel_rfl) rfl (by kernel_rfl) ⟨hS3, ?_⟩
          replace SG := hide (SG.out.setRow_ ne_bG #[.int .i64 (LP.canon xy).1, .slice G gn gc])
          have hbk2 : Blk (u2.setRow bG #[.int .i64 (LP.canon xy).1, .slice G gn gc]) bG 36 #[.int .i64 (LP.canon xy).1, .slice G gn gc] := setRow_heap _ _ _ _ _ _ BG.out
          replace BG := hide hbk2
          clear hbk2
          go_frame
          refine wpAnyH_tk 14 (v := .int .i64 0) rfl (by kernel_rfl) (by kernel_rfl) (by kernel_rfl) (yi rfl fun w' hw' => gives_move (.inr rfl) rfl) hS3 ?_
          go_frame
          refine wpAnyH_done (by kernel_rfl) (noPanic_mk ?_) _
          go_wp2_with fail
          go_meet
          exact ⟨bG, G, gn, gc, rfl, rfl, BG.out, SG.out, hS3⟩
        · have hS4 : Below w1.heap.size w1 (w1.drew.alloc (.cells #[.int .i64 0, .slice none 0 0] 36)) := hS0.alloc hS0.size _
          have hb : Below w1.drew.heap.size w1.drew (w1.drew.alloc (.cells #[.int .i64 0, .slice none 0 0] 36)) := (Below.refl _ _).alloc (Nat.le_refl _) _
          have g_bG : w1.heap.size ≤ w1.drew.heap.size := hS0.size
          have BG := hide (Blk.new w1.drew 36 #[.int .i64 0, .slice none 0 0])
          refine wp_alloc (z := .agg #[.int .i64 0, .slice none 0 0]) (cs := #[.int .i64 0, .slice none 0 0]) rfl (by kernel_rfl) rfl ⟨hS4, ?_⟩
          obtain ⟨bG, hq⟩ : ∃ q, w1.drew.heap.size = q := ⟨_, rfl⟩
          rw [hq] at BG g_bG  ⊢
          obtain ⟨u4, hw⟩ : ∃ x, w1.drew.alloc (.cells #[.int .i64 0, .slice none 0 0] 36) = x := ⟨_, rfl⟩
          rw [hw] at hS4 BG ⊢
          clear hb hw hq
          go_frame
          refine wpAnyH_1 8 rfl (by kernel_rfl) ?_
          refine wp_call [PV (LP.canon x).1 P pn pc, PV (LP.canon y).1 T tn tc] rfl rfl eAlMul rfl ((HMK.out u4 P pn pc T tn tc (SP.out.below hS4) (ST.out.below hS4)).mono ?_)
          rintro e u5 ⟨G, gn, gc, rfl, hs, hN, hb⟩
          dsimp only at hs ⊢
          have hS5 : Below w1.heap.size w1 u5 := hS4.trans (hb.mono hS4.size)
          have ne_bG : 0 < gn → ∀ ad, G = some ad → ad.block ≠ bG := fun h ad e => by have := hN h ad e; have := BG.out.lt; omega
          replace BG := hide (BG.out.below hb BG.out.lt)
          have SG := hide hs
          clear hb hs
          refine ⟨_, rfl, hS5, ?_⟩
          go_frame
          refine wpAnyH_tk 9 (v := .tuple #[PV (LP.canon xy).1 G gn gc, .int .i64 0]) rfl (by kernel_rfl) (by kernel_rfl) (by kernel_rfl) (yi rfl fun w' hw' => gives_move (.inl rfl) rfl) hS5 ?_
          go_frame
          refine wpAnyH_tk 10 (v := PV (LP.canon xy).1 G gn gc) rfl (by kernel_rfl) (by kernel_rfl) (by kernel_rfl) (yi rfl fun w' hw' => gives_extract rfl rfl rfl) hS5 ?_
          go_frame
          refine wpAnyH_tk 11 (v := .int .i64 0) rfl (by kernel_rfl) (by kernel_rfl) (by kernel_rfl) (yi rfl fun w' hw' => gives_extract rfl rfl rfl) hS5 ?_
          go_frame
          refine wpAnyH_1 13 rfl (by kernel_rfl) ?_
          have hS6 : Below w1.heap.size w1 (u5.setRow bG #[.int .i64 (LP.canon xy).1, .slice G gn gc]) := Below.setRow_ hS5 g_bG _
          refine wp_storeRow rfl rfl rfl BG.out (by kernel_rfl) rfl (by kernel_rfl) ⟨hS6, ?_⟩
          replace SG := hide (SG.out.setRow_ ne_bG #[.int .i64 (LP.canon xy).1, .slice G gn gc])
          have hbk2 : Blk (u5.setRow bG #[.int .i64 (LP.canon xy).1, .slice G gn gc]) bG 36 #[.int .i64 (LP.canon xy).1, .slice G gn gc] := setRow_heap _ _ _ _ _ _ BG.out
          replace BG := hide hbk2
          clear hbk2
          go_frame
          refine wpAnyH_tk 14 (v := .int .i64 0) rfl (by kernel_rfl) (by kernel_rfl) (by kernel_rfl) (yi rfl fun w' hw' => gives_move (.inr rfl) rfl) hS6 ?_
          go_frame
          refine wpAnyH_done (by kernel_rfl) (noPanic_mk ?_) _
          go_wp2_with fail
          go_meet
          exact ⟨bG, G, gn, gc, rfl, rfl, BG.out, SG.out, hS6⟩
      case rest =>
        obtain ⟨bG, G, gn, gc, rfl, rfl, hbk, hsl, hb⟩ := hcut
        have l6 := K6.out.lt
        have l7 := K7.out.lt
        replace SR := hide (SR.out.below hb)
        replace K6 := hide (K6.out.below hb l6)
        replace K7 := hide (K7.out.below hb l7)
        replace HW := hide (HW.out.trans (hb.mono HW.out.size))
        have l62 := K6.out.lt
        have l72 := K7.out.lt
        have BG := hide hbk
        have SG := hide hsl
        clear hb hbk hsl BP SP ST Q2 Q3 Q4 HL2 HL3 HMK l6 l7 LP0 HJQ HKM h3
        have c0 := K7.out.cell 0
        have c1 := K7.out.cell 1
        have d0 := BG.out.cell 0
        have d1 := BG.out.cell 1
        simp at c0 c1 d0 d1
        go_wp2_with fail
        refine (HDK.out _ R rn rc G gn gc SR.out SG.out).mono ?_
        rintro e w3 ⟨R', rn', rc', rfl, hs, hnw, hb⟩
        dsimp only at hs ⊢
        have HN2 : Hid (0 < rn' → ∀ ad, R' = some ad → b6 < ad.block ∧ b7 < ad.block) := hide (fun h ad e => by have := hnw h ad e; omega)
        replace K6 := hide (K6.out.below hb l62)
        replace K7 := hide (K7.out.below hb l72)
        replace HW := hide (HW.out.trans (hb.mono HW.out.size))
        have f6 : 0 < rn' → ∀ ad, R' = some ad → ad.block ≠ b7 := fun h ad e => by have := HN2.out h ad e; omega
        have SR2 := hide ((hs.setCell f6 0 (.int .i64 (LP.canon (S (k + 1))).1)).setCell f6 1 (.slice R' rn' rc'))
        have K62 := hide ((K6.out.far (p := ⟨b7, 0, none⟩) h67 (.int .i64 (LP.canon (S (k + 1))).1)).far (p := ⟨b7, 1, none⟩) h67 (.slice R' rn' rc'))
        have K72 : Hid (Blk ((w3.setCell ⟨b7, 0, none⟩ (.int .i64 (LP.canon (S (k + 1))).1)).setCell ⟨b7, 1, none⟩ (.slice R' rn' rc')) b7 36 #[.int .i64 (LP.canon (S (k + 1))).1, .slice R' rn' rc']) := hide ((K7.out.set_ 0 (.int .i64 (LP.canon (S (k + 1))).1)).set_ 1 (.slice R' rn' rc'))
        have HW2 := hide ((HW.out.setCell (p := ⟨b7, 0, none⟩) HWB.out.2 (.int .i64 (LP.canon (S (k + 1))).1)).setCell (p := ⟨b7, 1, none⟩) HWB.out.2 (.slice R' rn' rc'))
        have e0 := K7.out.cell 0
        have e1 := K7.out.cell 1
        have g0 := K7.out.frozen 0
        have g1 := K7.out.frozen 1
        simp at e0 e1
        have l73 := K7.out.lt
        clear hs hnw hb c0 c1 d0 d1 BG SG SR HDK l62 l72 f6 K6 K7 HW HN
        go_wp2_with fail
        go_roundw
        case rel => exact ⟨k + 1, R', rn', rc', by go_num, by omega, K62, K72, SR2, HN2, HW2⟩
        case measure => simp [intOf]; omega
    · have hkn : k = n := by omega
      subst hkn
      have c0 := K7.out.cell 0
      have c1 := K7.out.cell 1
      have c2 := K6.out.cell 0
      have c3 := K6.out.cell 1
      have f2 := K6.out.frozen 0
      have f3 := K6.out.frozen 1
      simp at c0 c1 c2 c3
      have l6 := K6.out.lt
      have hf : 0 < rn → ∀ ad, R = some ad → ad.block ≠ b6 := fun h ad e => by have := HN.out h ad e; omega
      have HF := hide hf
      clear hf hk hlt
      go_wp2_with fail
      refine bodyPost_ret (results_poly rfl _ rfl ((K6.out.set_ 0 (.int .i64 (LP.canon (S k)).1)).set_ 1 (.slice R rn rc))) rfl ?_
      refine ⟨R, rn, rc, rfl, (SR.out.setCell HF.out 0 _).setCell HF.out 1 _, fun h ad e => by have := HN.out h ad e; have := HWB.out; omega, ?_⟩
      exact (HW.out.setCell (p := ⟨b6, 0, none⟩) HWB.out.1 _).setCell (p := ⟨b6, 1, none⟩) HWB.out.1 _
end Go.Proofs.Ytndgffiihbdppaa
/- timbref1.Split; the walk's laws for a map of terms. -/
namespace Go.Proofs.Ytndgffiihbdppaa
set_option linter.unusedVariables false
set_option linter.unusedSimpArgs false
open Go.RowKit Go.Maps

theorem MapI.setCell {w : World} {b : Nat} {o : List Tm} (h : MapI w b o) {g : Addr} (hg : b ≠ g.block) (v : Value) : MapI (w.setCell g v) b o := ⟨h.dict.setCell hg v, h.nodup⟩
/-- What is in a map of terms is the coefficient. -/
theorem MapI.val {w : World} {b : Nat} {o : List Tm} (h : MapI w b o) {x c : Int} (hm : (x, c) ∈ o) : coefT o x = c := by rw [coefT_look h.nodup, lookT_of_mem h.nodup hm]; rfl
section
variable (w : World) {ops : Array Oper} {rest : List Oper} {o : Oper} {a : Act} {Q : Exit → Act → World → Prop}
end
/-- A new map of terms that reads as x; its keys are not far off. -/
def GivesT (w : World) (x : LP) (E : Nat) (e : Ending) (w' : World) : Prop :=
  ∃ b o, e = .returned (.map (some b)) ∧ w.heap.size ≤ b ∧ MapI w' b o ∧ LP.mk o = x ∧ (∀ p ∈ o, p.1.natAbs ≤ E) ∧ Below w.heap.size w w'
end Go.Proofs.Ytndgffiihbdppaa
/- timbref1.Terms.Plus and Mul. -/
namespace Go.Proofs.Ytndgffiihbdppaa
set_option linter.unusedVariables false
set_option linter.unusedSimpArgs false
open Go.RowKit Go.Maps

section
variable {w w' : World} {b r cnt : Nat} {T done rem : List Tm} {x c : Int}
theorem RangeI.fresh (h : RangeI w b r T (done ++ [(x, c)]) rem cnt) : coefT done x = 0 ∧ (x, c) ∈ T := by
  refine ⟨coefT_not fun p hp e => ?_, h.mem _ (by simp)⟩
  have hn : ((done ++ [(x, c)] ++ rem).map (·.1)).Nodup := (h.perm.map (·.1)).nodup_iff.2 h.nodup
  rw [List.append_assoc, List.map_append] at hn
  exact (List.nodup_append.1 hn).2.2 p.1 (List.mem_map.2 ⟨p, hp, rfl⟩) x (by simp) e
theorem RangeI.all (h : RangeI w b r T done [] cnt) : done.Perm T := by
  have := h.perm
  rwa [List.append_nil] at this
end

end Go.Proofs.Ytndgffiihbdppaa
/- timbref1.Terms.Poly. -/
namespace Go.Proofs.Ytndgffiihbdppaa
set_option linter.unusedVariables false
set_option linter.unusedSimpArgs false
open Go.RowKit Go.Maps

/-- What the first loop of Poly knows of the terms that it has seen. -/
def LH (done : List Tm) (low high : Int) (any : Bool) : Prop :=
  match any with
  | false => (∀ p ∈ done, p.2 = 0) ∧ low = 0 ∧ high = 0
  | true => (∃ c, c ≠ 0 ∧ (low, c) ∈ done) ∧ (∃ c, c ≠ 0 ∧ (high, c) ∈ done) ∧ ∀ p ∈ done, p.2 ≠ 0 → low ≤ p.1 ∧ p.1 ≤ high
theorem LH.zero {done : List Tm} {low high : Int} {any : Bool} (h : LH done low high any) (x : Int) : LH (done ++ [(x, 0)]) low high any := by
  cases any with
  | false => exact ⟨fun p hp => by rcases List.mem_append.1 hp with hp | hp; exact h.1 p hp; rw [List.mem_singleton.1 hp], h.2⟩
  | true =>
    obtain ⟨⟨c, hc, h1⟩, ⟨d, hd, h2⟩, h3⟩ := h
    refine ⟨⟨c, hc, List.mem_append_left _ h1⟩, ⟨d, hd, List.mem_append_left _ h2⟩, fun p hp h0 => ?_⟩
    rcases List.mem_append.1 hp with hp | hp
    · exact h3 p hp h0
    · rw [List.mem_singleton.1 hp] at h0; exact absurd rfl h0
theorem LH.first {done : List Tm} {low high : Int} (h : LH done low high false) (x : Int) {c : Int} (hc : c ≠ 0) : LH (done ++ [(x, c)]) x x true := by
  refine ⟨⟨c, hc, by simp⟩, ⟨c, hc, by simp⟩, fun p hp h0 => ?_⟩
  rcases List.mem_append.1 hp with hp | hp
  · exact absurd (h.1 p hp) h0
  · rw [List.mem_singleton.1 hp]; exact ⟨Int.le_refl _, Int.le_refl _⟩
theorem LH.next {done : List Tm} {low high : Int} (h : LH done low high true) (x : Int) {c : Int} (hc : c ≠ 0) : LH (done ++ [(x, c)]) (if x < low then x else low) (if high < x then x else high) true := by
  obtain ⟨⟨c1, hc1, h1⟩, ⟨d, hd, h2⟩, h3⟩ := h
  refine ⟨?_, ?_, fun p hp h0 => ?_⟩
  · by_cases e : x < low
    · rw [if_pos e]; exact ⟨c, hc, by simp⟩
    · rw [if_neg e]; exact ⟨c1, hc1, List.mem_append_left _ h1⟩
  · by_cases e : high < x
    · rw [if_pos e]; exact ⟨c, hc, by simp⟩
    · rw [if_neg e]; exact ⟨d, hd, List.mem_append_left _ h2⟩
  · rcases List.mem_append.1 hp with hp | hp
    · have := h3 p hp h0
      split <;> split <;> omega
    · rw [List.mem_singleton.1 hp]
      show (if x < low then x else low) ≤ x ∧ x ≤ (if high < x then x else high)
      split <;> split <;> omega
end Go.Proofs.Ytndgffiihbdppaa
