/- Reading slices of anything within a set of blocks; slices that the call builds item by item. -/
import Derived.Test.YthhcjnmlpojjeaaSl
namespace Go.Proofs.Ythhcjnmlpojjeaa
set_option linter.unusedVariables false
set_option linter.unusedSimpArgs false
open Go.RowKit

/-- The blocks of K are as they were. -/
def SameK (K : Nat → Prop) (w w' : World) : Prop := ∀ b, K b → w'.heap[b]? = w.heap[b]?
theorem SameK.cell {K : Nat → Prop} {w w' : World} (h : SameK K w w') {a : Addr} (ha : K a.block) : w'.cell? a = w.cell? a := World.cell?_of_block (w := w) (h a.block ha)
theorem SameK.below {B : Nat} {w w' : World} (h : Below B w w') : SameK (fun b => b < B) w w' := fun b hb => h.block b hb
theorem SameK.grown {w w' : World} {row : Option Nat} (h : w.grownBy w' row) : SameK (fun b => b < w.heap.size ∧ row ≠ some b) w w' := fun b hb => h.block b hb.1 (fun e => hb.2 e.symm)
theorem SameK.mono {K K' : Nat → Prop} {w w' : World} (h : SameK K w w') (hk : ∀ b, K' b → K b) : SameK K' w w' := fun b hb => h b (hk b hb)
/-- A reading of an item out of its cells: it looks at blocks of K alone. -/
abbrev RdI (α : Type) := (Nat → Prop) → World → List Value → α → Prop
structure RdOk {α : Type} (Q : RdI α) : Prop where
  keep : ∀ {K : Nat → Prop} {w w' : World} {us : List Value} {y : α}, SameK K w w' → w.heap.size ≤ w'.heap.size → Q K w us y → Q K w' us y
  mono : ∀ {K K' : Nat → Prop} {w : World} {us : List Value} {y : α}, (∀ b, b < w.heap.size → K b → K' b) → Q K w us y → Q K' w us y

/-- A slice that reads as ys; each item takes sz cells. -/
structure RdS {α : Type} (Q : RdI α) (sz : Nat) (K : Nat → Prop) (w : World) (A : Option Addr) (n c : Nat) (ys : List α) : Prop where
  len : ys.length = n
  small : n ≤ 17592186044416
  nil : A = none → n = 0 ∧ c = 0
  cap : n ≤ c
  mem : 0 < n → ∃ ad, A = some ad ∧ ad.block < w.heap.size ∧ K ad.block ∧ ∀ j (hj : j < ys.length), ∃ us : List Value, us.length = sz ∧ w.cell? (ad.add (j * sz)) = us[0]? ∧ (∀ i, i < sz → w.cell? ⟨(ad.add (j * sz)).block, (ad.add (j * sz)).off + i, none⟩ = us[i]?) ∧ Q K w us ys[j]
section
variable {α : Type} {Q : RdI α} {sz n c : Nat} {K K' : Nat → Prop} {w w' : World} {A : Option Addr} {ys : List α}
theorem RdS.keep (hQ : RdOk Q) (h : RdS Q sz K w A n c ys) (hk : SameK K w w') (hs : w.heap.size ≤ w'.heap.size) : RdS Q sz K w' A n c ys :=
  ⟨h.len, h.small, h.nil, h.cap, fun hn => by
    obtain ⟨ad, e, hl, hb, hc⟩ := h.mem hn
    refine ⟨ad, e, Nat.lt_of_lt_of_le hl hs, hb, fun j hj => ?_⟩
    obtain ⟨us, h1, h0, h2, h3⟩ := hc j hj
    exact ⟨us, h1, (hk.cell (by rw [block_of_add]; exact hb)).trans h0, fun i hi => (hk.cell (by show K (ad.add (j * sz)).block; rw [block_of_add]; exact hb)).trans (h2 i hi), hQ.keep hk hs h3⟩⟩
theorem RdS.mono (hQ : RdOk Q) (h : RdS Q sz K w A n c ys) (hk : ∀ b, b < w.heap.size → K b → K' b) : RdS Q sz K' w A n c ys :=
  ⟨h.len, h.small, h.nil, h.cap, fun hn => by
    obtain ⟨ad, e, hl, hb, hc⟩ := h.mem hn
    refine ⟨ad, e, hl, hk _ hl hb, fun j hj => ?_⟩
    obtain ⟨us, h1, h0, h2, h3⟩ := hc j hj
    exact ⟨us, h1, h0, h2, hQ.mono hk h3⟩⟩
theorem RdS.nil_ (Q : RdI α) (sz : Nat) (K : Nat → Prop) (w : World) : RdS Q sz K w none 0 0 [] := ⟨rfl, by omega, fun _ => ⟨rfl, rfl⟩, Nat.le_refl _, fun h => absurd h (by omega)⟩
end
/-- A slice as it stands in the world: all that it reads is there. -/
abbrev Rd {α : Type} (Q : RdI α) (sz : Nat) (w : World) (A : Option Addr) (n c : Nat) (ys : List α) : Prop := RdS Q sz (fun b => b < w.heap.size) w A n c ys
theorem Rd.below {α : Type} {Q : RdI α} {sz n c : Nat} {w w' : World} {A : Option Addr} {ys : List α} (hQ : RdOk Q) (h : Rd Q sz w A n c ys) (hb : Below w.heap.size w w') : Rd Q sz w' A n c ys :=
  (h.keep hQ (SameK.below hb) hb.size).mono hQ fun b _ hl => Nat.lt_of_lt_of_le hl hb.size

structure SLK (K : Nat → Prop) (w : World) (A : Option Addr) (n c : Nat) (xs : List Int) : Prop where
  sl : SL w A n c xs
  inK : 0 < n → ∀ ad, A = some ad → K ad.block
theorem SLK.keep {K : Nat → Prop} {w w' : World} {A : Option Addr} {n c : Nat} {xs : List Int} (h : SLK K w A n c xs) (hk : SameK K w w') (hs : w.heap.size ≤ w'.heap.size) : SLK K w' A n c xs :=
  ⟨⟨⟨h.sl.il.len, h.sl.il.small, fun hn => by
    obtain ⟨ad, e, hl, hc⟩ := h.sl.il.mem hn
    refine ⟨ad, e, Nat.lt_of_lt_of_le hl hs, fun j hj => ?_⟩
    rw [← hc j hj]
    exact hk.cell (by rw [block_of_add]; exact h.inK hn ad e)⟩, h.sl.nil, h.sl.cap⟩, h.inK⟩
theorem SLK.mono {K K' : Nat → Prop} {w : World} {A : Option Addr} {n c : Nat} {xs : List Int} (h : SLK K w A n c xs) (hk : ∀ b, b < w.heap.size → K b → K' b) : SLK K' w A n c xs :=
  ⟨h.sl, fun hn ad e => hk _ (by
    obtain ⟨ad', e', hl, _⟩ := h.sl.il.mem hn
    rw [e] at e'; injection e' with e'; rw [e']; exact hl) (h.inK hn ad e)⟩
theorem SL.k {w : World} {A : Option Addr} {n c : Nat} {xs : List Int} (h : SL w A n c xs) : SLK (fun b => b < w.heap.size) w A n c xs := ⟨h, fun hn ad e => h.inside hn ad e⟩
section
variable {α : Type} {Q : RdI α} {n c k : Nat} {K : Nat → Prop} {w : World} {A : Option Addr} {ys : List α}
theorem RdS.inK (h : RdS Q n K w A c k ys) : 0 < c → ∀ ad, A = some ad → K ad.block ∧ ad.block < w.heap.size := fun hn ad e => by
  obtain ⟨ad', e', hl, hb, _⟩ := h.mem hn
  rw [e] at e'; injection e' with e'; subst e'; exact ⟨hb, hl⟩
end

/-! ### built by the call -/
/-- A slice of the call's own, with elements of type e and sz cells. -/
structure OwnG (e : TypeId) (sz : Nat) (w : World) (base : Nat) (A : Option Addr) (n c : Nat) (vs : List Value) : Prop where
  own : w.ownsRow base e sz (.slice A n c) n vs
  small : n ≤ 1000000
section
variable {e : TypeId} {sz base n c : Nat} {w w' : World} {A : Option Addr} {vs : List Value}
theorem OwnG.nil_ (e : TypeId) (sz : Nat) (w : World) (base : Nat) : OwnG e sz w base none 0 0 [] := ⟨World.ownsRow_nil _ _ _ _, by omega⟩
theorem OwnG.len (h : OwnG e sz w base A n c vs) : vs.length = n * sz := h.own.1
theorem OwnG.lt (h : OwnG e sz w base A n c vs) : ∀ k, (Value.slice A n c).ownBlock = some k → base ≤ k ∧ k < w.heap.size := h.own.lt
theorem OwnG.keep {K : Nat → Prop} (h : OwnG e sz w base A n c vs) (hk : SameK K w w') (hK : ∀ k, (Value.slice A n c).ownBlock = some k → K k) : OwnG e sz w' base A n c vs := by
  refine ⟨⟨h.own.1, ?_⟩, h.small⟩
  rcases h.own.2 with h2 | ⟨g, cap, cur, hv, hg, hh, r⟩
  · exact .inl h2
  · exact .inr ⟨g, cap, cur, hv, hg, (hk g (hK g (by rw [hv]; rfl))).trans hh, r⟩
theorem OwnG.below (h : OwnG e sz w base A n c vs) (hb : Below w.heap.size w w') : OwnG e sz w' base A n c vs := h.keep (SameK.below hb) fun k hk => (h.lt k hk).2
theorem OwnG.mono {b' : Nat} (h : OwnG e sz w base A n c vs) (hb : b' ≤ base) : OwnG e sz w b' A n c vs := by
  refine ⟨⟨h.own.1, ?_⟩, h.small⟩
  rcases h.own.2 with h2 | ⟨g, cap, cur, hv, hg, r⟩
  · exact .inl h2
  · exact .inr ⟨g, cap, cur, hv, by omega, r⟩
theorem OwnG.form (h : OwnG e sz w base A n c vs) (hn : 0 < n) : ∃ g, A = some ⟨g, 0, none⟩ ∧ base ≤ g ∧ g < w.heap.size := by
  rcases h.own.2 with ⟨_, h0⟩ | ⟨g, cap, cur, hv, hg, hh, _⟩
  · omega
  · simp only [Value.slice.injEq] at hv
    exact ⟨g, hv.1, hg, Blk.lt (w := w) (t := e) (cs := cur) hh⟩
theorem OwnG.cells (h : OwnG e sz w base A n c vs) : ∀ k, (Value.slice A n c).ownBlock = some k → ∃ cur : Array Value, base ≤ k ∧ w.heap[k]? = some (.cells cur e (0, 0)) := by
  intro k hk
  rcases h.own.2 with ⟨hv, _⟩ | ⟨g, cap, cur, hv, hb, hh, _⟩
  · rw [hv] at hk; cases hk
  · rw [hv] at hk
    injection hk with hk
    subst hk
    exact ⟨cur, hb, hh⟩
theorem OwnG.cellAt {g : Nat} (h : OwnG e sz w base (some ⟨g, 0, none⟩) n c vs) {j : Nat} (hj : j < n * sz) : w.cell? ⟨g, j, none⟩ = vs[j]? := h.own.cellAt j hj
theorem OwnG.frozen {g : Nat} (h : OwnG e sz w base (some ⟨g, 0, none⟩) n c vs) (j : Nat) : w.frozen? ⟨g, j, none⟩ = false := h.own.frozenAt j
theorem OwnG.set_ {g : Nat} (h : OwnG e sz w base (some ⟨g, 0, none⟩) n c vs) (j : Nat) (u : Value) : OwnG e sz (w.setCell ⟨g, j, none⟩ u) base (some ⟨g, 0, none⟩) n c (vs.set j u) := ⟨(h.own.stored j u).1, h.small⟩
end
/-- What append leaves. -/
structure AppG (e : TypeId) (sz : Nat) (w : World) (base : Nat) (A : Option Addr) (n c : Nat) (vs : List Value) (A' : Option Addr) (c' : Nat) (w' : World) : Prop where
  own : OwnG e sz w' base A' n c' vs
  grown : w.grownBy w' (Value.slice A n c).ownBlock
  lies : (Value.slice A' n c').ownBlock = (Value.slice A n c).ownBlock ∨ (Value.slice A' n c').ownBlock = some w.heap.size
/-- A slice that the call builds: its own row of cells, and items that are read outside it. -/
structure Bld {α : Type} (L : Nat → Prop) (Q : RdI α) (e : TypeId) (sz : Nat) (w0 w : World) (A : Option Addr) (n c : Nat) (vs : List Value) (ys : List α) : Prop where
  own : OwnG e sz w w0.heap.size A n c vs
  len : ys.length = n
  row : ∀ j (hj : j < ys.length), Q (fun b => L b ∧ b < w.heap.size ∧ (Value.slice A n c).ownBlock ≠ some b) w ((vs.drop (j * sz)).take sz) ys[j]
  below : Below w0.heap.size w0 w
section
variable {α : Type} {L : Nat → Prop} {Q : RdI α} {e : TypeId} {sz n c : Nat} {w0 w w' : World} {A : Option Addr} {vs : List Value} {ys : List α}
theorem Bld.start (L : Nat → Prop) (Q : RdI α) (e : TypeId) (sz : Nat) (w0 : World) : Bld L Q e sz w0 w0 none 0 0 [] [] := ⟨OwnG.nil_ _ _ _ _, rfl, fun j hj => by simp at hj, Below.refl _ _⟩
theorem Bld.to (hQ : RdOk Q) (h : Bld L Q e sz w0 w A n c vs ys) (hb : Below w.heap.size w w') : Bld L Q e sz w0 w' A n c vs ys :=
  ⟨h.own.below hb, h.len, fun j hj => hQ.mono (fun b _ hb2 => ⟨hb2.1, Nat.lt_of_lt_of_le hb2.2.1 hb.size, hb2.2.2⟩) (hQ.keep ((SameK.below hb).mono fun b hb2 => hb2.2.1) hb.size (h.row j hj)), h.below.trans (hb.mono h.below.size)⟩
/-- One item more. -/
theorem Bld.add (hQ : RdOk Q) {A9 : Option Addr} {c9 : Nat} {w9 : World} {us : List Value} {y : α} (h : Bld L Q e sz w0 w A n c vs ys) (hl : us.length = sz)
    (hy : Q (fun b => L b ∧ b < w.heap.size ∧ (Value.slice A n c).ownBlock ≠ some b) w us y) (happ : AppG e sz w w0.heap.size A (n + 1) c (vs ++ us) A9 c9 w9) :
    Bld L Q e sz w0 w9 A9 (n + 1) c9 (vs ++ us) (ys ++ [y]) := by
  have hown : (Value.slice A (n + 1) c).ownBlock = (Value.slice A n c).ownBlock := ownBlock_len A (n + 1) n c c
  have hsame : SameK (fun b => L b ∧ b < w.heap.size ∧ (Value.slice A n c).ownBlock ≠ some b) w w9 := by
    have := SameK.grown happ.grown
    rw [hown] at this
    exact this.mono fun b hb => hb.2
  have hup : ∀ b, b < w9.heap.size → (L b ∧ b < w.heap.size ∧ (Value.slice A n c).ownBlock ≠ some b) → L b ∧ b < w9.heap.size ∧ (Value.slice A9 (n + 1) c9).ownBlock ≠ some b := fun b hb h2 => ⟨h2.1, hb, by
    rcases happ.lies with h3 | h3
    · rw [h3, hown]; exact h2.2.2
    · rw [h3]; intro e; injection e with e; omega⟩
  have hvl := h.own.len
  refine ⟨happ.own, by simp [h.len], fun j hj => ?_, h.below.grown happ.grown h.below.size (fun g hg => (h.own.lt g (by rw [← hown]; exact hg)).1)⟩
  have hj2 : j < n + 1 := by simp [h.len] at hj; exact hj
  by_cases hjn : j < n
  · have hj3 : j < ys.length := by rw [h.len]; exact hjn
    have hm : (j + 1) * sz ≤ n * sz := Nat.mul_le_mul_right _ hjn
    rw [Nat.add_mul, Nat.one_mul] at hm
    have e1 : ((vs ++ us).drop (j * sz)).take sz = (vs.drop (j * sz)).take sz := by
      rw [List.drop_append_of_le_length (by omega), List.take_append_of_le_length (by rw [List.length_drop]; omega)]
    have e2 : (ys ++ [y])[j] = ys[j] := List.getElem_append_left hj3
    rw [e1, e2]
    exact hQ.mono hup (hQ.keep hsame happ.grown.size (h.row j hj3))
  · have hjn2 : j = n := by omega
    subst hjn2
    have e1 : ((vs ++ us).drop (j * sz)).take sz = us := by
      rw [List.drop_append, show vs.drop (j * sz) = [] from List.drop_eq_nil_of_le (by omega), hvl, Nat.sub_self, List.drop_zero, List.nil_append, List.take_of_length_le (by omega)]
    have e2 : (ys ++ [y])[j] = y := by rw [List.getElem_append_right (by rw [h.len]; exact Nat.le_refl _)]; simp
    rw [e1, e2]
    exact hQ.mono hup (hQ.keep hsame happ.grown.size hy)
/-- Outside a set of old blocks: everything that is read is new. -/
theorem Bld.far (h : Bld L Q e sz w0 w A n c vs ys) : 0 < n → ∀ ad, A = some ad → w0.heap.size ≤ ad.block := fun hn ad e => by
  obtain ⟨g, e2, hg, _⟩ := h.own.form hn
  rw [e] at e2; injection e2 with e2; rw [e2]; exact hg
end
end Go.Proofs.Ythhcjnmlpojjeaa
