/- Several texts in one. -/
import Derived.Test.YtoaiblhlpdaeoaaPart1
import Derived.Test.YtoaiblhlpdaeoaaPart5
import Derived.BigRegion
import Derived.Deep.DeepCutAuto
import Derived.Test.YtoaiblhlpdaeoaaBase1
import Derived.Maps.RangeWalk
import Derived.Maps.Keyed
import Derived.Test.YtoaiblhlpdaeoaaPart2
import Derived.Test.YtoaiblhlpdaeoaaPart3
import Derived.Deep.RegionWith
import Derived.Lib.SliceRun
import Derived.Laws.EntriesVeiled
/- Reading slices of anything within a set of blocks; slices that the call builds item by item. -/
namespace Go.Proofs.Ytoaiblhlpdaeoaa
set_option linter.unusedVariables false
set_option linter.unusedSimpArgs false
open Go.RowKit

/-- The blocks of K are as they were. -/
def SameK (K : Nat → Prop) (w w' : World) : Prop := ∀ b, K b → w'.heap[b]? = w.heap[b]?
theorem SameK.cell {K : Nat → Prop} {w w' : World} (h : SameK K w w') {a : Addr} (ha : K a.block) : w'.cell? a = w.cell? a := World.cell?_of_block (w := w) (h a.block ha)
theorem SameK.below {B : Nat} {w w' : World} (h : Below B w w') : SameK (fun b => b < B) w w' := fun b hb => h.block b hb
theorem SameK.grown {w w' : World} {row : Option Nat} (h : w.grownBy w' row) : SameK (fun b => b < w.heap.size ∧ row ≠ some b) w w' := fun b hb => h.block b hb.1 (fun e => hb.2 e.symm)
theorem SameK.mono {K K' : Nat → Prop} {w w' : World} (h : SameK K w w') (hk : ∀ b, K' b → K b) : SameK K' w w' := fun b hb => h b (hk b hb)
/-- A reading of an item out of its cells: it looks at blocks of K alone. -/
abbrev RdI (α : Type) := (Nat → Prop) → World → List Value → α → Prop
structure RdOk {α : Type} (Q : RdI α) : Prop where
  keep : ∀ {K : Nat → Prop} {w w' : World} {us : List Value} {y : α}, SameK K w w' → w.heap.size ≤ w'.heap.size → Q K w us y → Q K w' us y
  mono : ∀ {K K' : Nat → Prop} {w : World} {us : List Value} {y : α}, (∀ b, b < w.heap.size → K b → K' b) → Q K w us y → Q K' w us y

/-- A slice that reads as ys; each item takes sz cells. -/
structure RdS {α : Type} (Q : RdI α) (sz : Nat) (K : Nat → Prop) (w : World) (A : Option Addr) (n c : Nat) (ys : List α) : Prop where
  len : ys.length = n
  small : n ≤ 17592186044416
  nil : A = none → n = 0 ∧ c = 0
  cap : n ≤ c
  mem : 0 < n → ∃ ad, A = some ad ∧ ad.block < w.heap.size ∧ K ad.block ∧ ∀ j (hj : j < ys.length), ∃ us : List Value, us.length = sz ∧ w.cell? (ad.add (j * sz)) = us[0]? ∧ (∀ i, i < sz → w.cell? ⟨(ad.add (j * sz)).block, (ad.add (j * sz)).off + i, none⟩ = us[i]?) ∧ Q K w us ys[j]
section
variable {α : Type} {Q : RdI α} {sz n c : Nat} {K K' : Nat → Prop} {w w' : World} {A : Option Addr} {ys : List α}
theorem RdS.keep (hQ : RdOk Q) (h : RdS Q sz K w A n c ys) (hk : SameK K w w') (hs : w.heap.size ≤ w'.heap.size) : RdS Q sz K w' A n c ys :=
  ⟨h.len, h.small, h.nil, h.cap, fun hn => by
    obtain ⟨ad, e, hl, hb, hc⟩ := h.mem hn
    refine ⟨ad, e, Nat.lt_of_lt_of_le hl hs, hb, fun j hj => ?_⟩
    obtain ⟨us, h1, h0, h2, h3⟩ := hc j hj
    exact ⟨us, h1, (hk.cell (by rw [block_of_add]; exact hb)).trans h0, fun i hi => (hk.cell (by show K (ad.add (j * sz)).block; rw [block_of_add]; exact hb)).trans (h2 i hi), hQ.keep hk hs h3⟩⟩
theorem RdS.mono (hQ : RdOk Q) (h : RdS Q sz K w A n c ys) (hk : ∀ b, b < w.heap.size → K b → K' b) : RdS Q sz K' w A n c ys :=
  ⟨h.len, h.small, h.nil, h.cap, fun hn => by
    obtain ⟨ad, e, hl, hb, hc⟩ := h.mem hn
    refine ⟨ad, e, hl, hk _ hl hb, fun j hj => ?_⟩
    obtain ⟨us, h1, h0, h2, h3⟩ := hc j hj
    exact ⟨us, h1, h0, h2, hQ.mono hk h3⟩⟩
theorem RdS.nil_ (Q : RdI α) (sz : Nat) (K : Nat → Prop) (w : World) : RdS Q sz K w none 0 0 [] := ⟨rfl, by omega, fun _ => ⟨rfl, rfl⟩, Nat.le_refl _, fun h => absurd h (by omega)⟩
end
/-- A slice as it stands in the world: all that it reads is there. -/
abbrev Rd {α : Type} (Q : RdI α) (sz : Nat) (w : World) (A : Option Addr) (n c : Nat) (ys : List α) : Prop := RdS Q sz (fun b => b < w.heap.size) w A n c ys
theorem Rd.below {α : Type} {Q : RdI α} {sz n c : Nat} {w w' : World} {A : Option Addr} {ys : List α} (hQ : RdOk Q) (h : Rd Q sz w A n c ys) (hb : Below w.heap.size w w') : Rd Q sz w' A n c ys :=
  (h.keep hQ (SameK.below hb) hb.size).mono hQ fun b _ hl => Nat.lt_of_lt_of_le hl hb.size

structure SLK (K : Nat → Prop) (w : World) (A : Option Addr) (n c : Nat) (xs : List Int) : Prop where
  sl : SL w A n c xs
  inK : 0 < n → ∀ ad, A = some ad → K ad.block
theorem SLK.keep {K : Nat → Prop} {w w' : World} {A : Option Addr} {n c : Nat} {xs : List Int} (h : SLK K w A n c xs) (hk : SameK K w w') (hs : w.heap.size ≤ w'.heap.size) : SLK K w' A n c xs :=
  ⟨⟨⟨h.sl.il.len, h.sl.il.small, fun hn => by
    obtain ⟨ad, e, hl, hc⟩ := h.sl.il.mem hn
    refine ⟨ad, e, Nat.lt_of_lt_of_le hl hs, fun j hj => ?_⟩
    rw [← hc j hj]
    exact hk.cell (by rw [block_of_add]; exact h.inK hn ad e)⟩, h.sl.nil, h.sl.cap⟩, h.inK⟩
theorem SLK.mono {K K' : Nat → Prop} {w : World} {A : Option Addr} {n c : Nat} {xs : List Int} (h : SLK K w A n c xs) (hk : ∀ b, b < w.heap.size → K b → K' b) : SLK K' w A n c xs :=
  ⟨h.sl, fun hn ad e => hk _ (by
    obtain ⟨ad', e', hl, _⟩ := h.sl.il.mem hn
    rw [e] at e'; injection e' with e'; rw [e']; exact hl) (h.inK hn ad e)⟩
theorem SL.k {w : World} {A : Option Addr} {n c : Nat} {xs : List Int} (h : SL w A n c xs) : SLK (fun b => b < w.heap.size) w A n c xs := ⟨h, fun hn ad e => h.inside hn ad e⟩
section
variable {α : Type} {Q : RdI α} {n c k : Nat} {K : Nat → Prop} {w : World} {A : Option Addr} {ys : List α}
theorem RdS.inK (h : RdS Q n K w A c k ys) : 0 < c → ∀ ad, A = some ad → K ad.block ∧ ad.block < w.heap.size := fun hn ad e => by
  obtain ⟨ad', e', hl, hb, _⟩ := h.mem hn
  rw [e] at e'; injection e' with e'; subst e'; exact ⟨hb, hl⟩
end

/-! ### built by the call -/
/-- A slice of the call's own, with elements of type e and sz cells. -/
structure OwnG (e : TypeId) (sz : Nat) (w : World) (base : Nat) (A : Option Addr) (n c : Nat) (vs : List Value) : Prop where
  own : w.ownsRow base e sz (.slice A n c) n vs
  small : n ≤ 1000000
section
variable {e : TypeId} {sz base n c : Nat} {w w' : World} {A : Option Addr} {vs : List Value}
theorem OwnG.nil_ (e : TypeId) (sz : Nat) (w : World) (base : Nat) : OwnG e sz w base none 0 0 [] := ⟨World.ownsRow_nil _ _ _ _, by omega⟩
theorem OwnG.len (h : OwnG e sz w base A n c vs) : vs.length = n * sz := h.own.1
theorem OwnG.lt (h : OwnG e sz w base A n c vs) : ∀ k, (Value.slice A n c).ownBlock = some k → base ≤ k ∧ k < w.heap.size := h.own.lt
theorem OwnG.keep {K : Nat → Prop} (h : OwnG e sz w base A n c vs) (hk : SameK K w w') (hK : ∀ k, (Value.slice A n c).ownBlock = some k → K k) : OwnG e sz w' base A n c vs := by
  refine ⟨⟨h.own.1, ?_⟩, h.small⟩
  rcases h.own.2 with h2 | ⟨g, cap, cur, hv, hg, hh, r⟩
  · exact .inl h2
  · exact .inr ⟨g, cap, cur, hv, hg, (hk g (hK g (by rw [hv]; rfl))).trans hh, r⟩
theorem OwnG.below (h : OwnG e sz w base A n c vs) (hb : Below w.heap.size w w') : OwnG e sz w' base A n c vs := h.keep (SameK.below hb) fun k hk => (h.lt k hk).2
theorem OwnG.mono {b' : Nat} (h : OwnG e sz w base A n c vs) (hb : b' ≤ base) : OwnG e sz w b' A n c vs := by
  refine ⟨⟨h.own.1, ?_⟩, h.small⟩
  rcases h.own.2 with h2 | ⟨g, cap, cur, hv, hg, r⟩
  · exact .inl h2
  · exact .inr ⟨g, cap, cur, hv, by omega, r⟩
theorem OwnG.form (h : OwnG e sz w base A n c vs) (hn : 0 < n) : ∃ g, A = some ⟨g, 0, none⟩ ∧ base ≤ g ∧ g < w.heap.size := by
  rcases h.own.2 with ⟨_, h0⟩ | ⟨g, cap, cur, hv, hg, hh, _⟩
  · omega
  · simp only [Value.slice.injEq] at hv
    exact ⟨g, hv.1, hg, Blk.lt (w := w) (t := e) (cs := cur) hh⟩
theorem OwnG.cells (h : OwnG e sz w base A n c vs) : ∀ k, (Value.slice A n c).ownBlock = some k → ∃ cur : Array Value, base ≤ k ∧ w.heap[k]? = some (.cells cur e (0, 0)) := by
  intro k hk
  rcases h.own.2 with ⟨hv, _⟩ | ⟨g, cap, cur, hv, hb, hh, _⟩
  · rw [hv] at hk; cases hk
  · rw [hv] at hk
    injection hk with hk
    subst hk
    exact ⟨cur, hb, hh⟩
theorem OwnG.cellAt {g : Nat} (h : OwnG e sz w base (some ⟨g, 0, none⟩) n c vs) {j : Nat} (hj : j < n * sz) : w.cell? ⟨g, j, none⟩ = vs[j]? := h.own.cellAt j hj
theorem OwnG.frozen {g : Nat} (h : OwnG e sz w base (some ⟨g, 0, none⟩) n c vs) (j : Nat) : w.frozen? ⟨g, j, none⟩ = false := h.own.frozenAt j
theorem OwnG.set_ {g : Nat} (h : OwnG e sz w base (some ⟨g, 0, none⟩) n c vs) (j : Nat) (u : Value) : OwnG e sz (w.setCell ⟨g, j, none⟩ u) base (some ⟨g, 0, none⟩) n c (vs.set j u) := ⟨(h.own.stored j u).1, h.small⟩
end
/-- What append leaves. -/
structure AppG (e : TypeId) (sz : Nat) (w : World) (base : Nat) (A : Option Addr) (n c : Nat) (vs : List Value) (A' : Option Addr) (c' : Nat) (w' : World) : Prop where
  own : OwnG e sz w' base A' n c' vs
  grown : w.grownBy w' (Value.slice A n c).ownBlock
  lies : (Value.slice A' n c').ownBlock = (Value.slice A n c).ownBlock ∨ (Value.slice A' n c').ownBlock = some w.heap.size
/-- A slice that the call builds: its own row of cells, and items that are read outside it. -/
structure Bld {α : Type} (L : Nat → Prop) (Q : RdI α) (e : TypeId) (sz : Nat) (w0 w : World) (A : Option Addr) (n c : Nat) (vs : List Value) (ys : List α) : Prop where
  own : OwnG e sz w w0.heap.size A n c vs
  len : ys.length = n
  row : ∀ j (hj : j < ys.length), Q (fun b => L b ∧ b < w.heap.size ∧ (Value.slice A n c).ownBlock ≠ some b) w ((vs.drop (j * sz)).take sz) ys[j]
  below : Below w0.heap.size w0 w
section
variable {α : Type} {L : Nat → Prop} {Q : RdI α} {e : TypeId} {sz n c : Nat} {w0 w w' : World} {A : Option Addr} {vs : List Value} {ys : List α}
theorem Bld.start (L : Nat → Prop) (Q : RdI α) (e : TypeId) (sz : Nat) (w0 : World) : Bld L Q e sz w0 w0 none 0 0 [] [] := ⟨OwnG.nil_ _ _ _ _, rfl, fun j hj => by simp at hj, Below.refl _ _⟩
theorem Bld.to (hQ : RdOk Q) (h : Bld L Q e sz w0 w A n c vs ys) (hb : Below w.heap.size w w') : Bld L Q e sz w0 w' A n c vs ys :=
  ⟨h.own.below hb, h.len, fun j hj => hQ.mono (fun b _ hb2 => ⟨hb2.1, Nat.lt_of_lt_of_le hb2.2.1 hb.size, hb2.2.2⟩) (hQ.keep ((SameK.below hb).mono fun b hb2 => hb2.2.1) hb.size (h.row j hj)), h.below.trans (hb.mono h.below.size)⟩
/-- One item more. -/
theorem Bld.add (hQ : RdOk Q) {A9 : Option Addr} {c9 : Nat} {w9 : World} {us : List Value} {y : α} (h : Bld L Q e sz w0 w A n c vs ys) (hl : us.length = sz)
    (hy : Q (fun b => L b ∧ b < w.heap.size ∧ (Value.slice A n c).ownBlock ≠ some b) w us y) (happ : AppG e sz w w0.heap.size A (n + 1) c (vs ++ us) A9 c9 w9) :
    Bld L Q e sz w0 w9 A9 (n + 1) c9 (vs ++ us) (ys ++ [y]) := by
  have hown : (Value.slice A (n + 1) c).ownBlock = (Value.slice A n c).ownBlock := ownBlock_len A (n + 1) n c c
  have hsame : SameK (fun b => L b ∧ b < w.heap.size ∧ (Value.slice A n c).ownBlock ≠ some b) w w9 := by
    have := SameK.grown happ.grown
    rw [hown] at this
    exact this.mono fun b hb => hb.2
  have hup : ∀ b, b < w9.heap.size → (L b ∧ b < w.heap.size ∧ (Value.slice A n c).ownBlock ≠ some b) → L b ∧ b < w9.heap.size ∧ (Value.slice A9 (n + 1) c9).ownBlock ≠ some b := fun b hb h2 => ⟨h2.1, hb, by
    rcases happ.lies with h3 | h3
    · rw [h3, hown]; exact h2.2.2
    · rw [h3]; intro e; injection e with e; omega⟩
  have hvl := h.own.len
  refine ⟨happ.own, by simp [h.len], fun j hj => ?_, h.below.grown happ.grown h.below.size (fun g hg => (h.own.lt g (by rw [← hown]; exact hg)).1)⟩
  have hj2 : j < n + 1 := by simp [h.len] at hj; exact hj
  by_cases hjn : j < n
  · have hj3 : j < ys.length := by rw [h.len]; exact hjn
    have hm : (j + 1) * sz ≤ n * sz := Nat.mul_le_mul_right _ hjn
    rw [Nat.add_mul, Nat.one_mul] at hm
    have e1 : ((vs ++ us).drop (j * sz)).take sz = (vs.drop (j * sz)).take sz := by
      rw [List.drop_append_of_le_length (by omega), List.take_append_of_le_length (by rw [List.length_drop]; omega)]
    have e2 : (ys ++ [y])[j] = ys[j] := List.getElem_append_left hj3
    rw [e1, e2]
    exact hQ.mono hup (hQ.keep hsame happ.grown.size (h.row j hj3))
  · have hjn2 : j = n := by omega
    subst hjn2
    have e1 : ((vs ++ us).drop (j * sz)).take sz = us := by
      rw [List.drop_append, show vs.drop (j * sz) = [] from List.drop_eq_nil_of_le (by omega), hvl, Nat.sub_self, List.drop_zero, List.nil_append, List.take_of_length_le (by omega)]
    have e2 : (ys ++ [y])[j] = y := by rw [List.getElem_append_right (by rw [h.len]; exact Nat.le_refl _)]; simp
    rw [e1, e2]
    exact hQ.mono hup (hQ.keep hsame happ.grown.size hy)
/-- Outside a set of old blocks: everything that is read is new. -/
theorem Bld.far (h : Bld L Q e sz w0 w A n c vs ys) : 0 < n → ∀ ad, A = some ad → w0.heap.size ≤ ad.block := fun hn ad e => by
  obtain ⟨g, e2, hg, _⟩ := h.own.form hn
  rw [e] at e2; injection e2 with e2; rw [e2]; exact hg
end
end Go.Proofs.Ytoaiblhlpdaeoaa
/- Package braid: applyLetter. -/
namespace Go.Proofs.Ytoaiblhlpdaeoaa
set_option linter.unusedVariables false
set_option linter.unusedSimpArgs false
open Go.RowKit

theorem chg_set {g i : Nat} {w : World} {v : Value} : w.grownBy (w.setCell ⟨g, i, none⟩ v) (some g) := by
  have h := (Below.refl g w).setCell (p := ⟨g, i, none⟩) (Nat.le_refl _) v
  exact ⟨h.os, h.tape, h.output, h.size, fun b _ hne => Below.heap_setCell w ⟨g, i, none⟩ v b (fun e => hne (by rw [e]))⟩
/-- A row of polynomials. -/
structure RowB (w : World) (g n : Nat) (K : Nat → Prop) (X : Nat → LP) : Prop where
  blk : ∃ cs, Blk w g 54 cs
  at_ : ∀ j, j < n → ∃ B m d, w.cell? ⟨g, j * 2, none⟩ = some (.int .i64 (LP.canon (X j)).1) ∧ w.cell? ⟨g, j * 2 + 1, none⟩ = some (.slice B m d) ∧ SLK K w B m d (LP.canon (X j)).2
theorem RowB.lt {w : World} {g n : Nat} {K : Nat → Prop} {X : Nat → LP} (h : RowB w g n K X) : g < w.heap.size := by
  obtain ⟨cs, hc⟩ := h.blk
  exact hc.lt
theorem RowB.keep {w w' : World} {g n : Nat} {K : Nat → Prop} {X : Nat → LP} (h : RowB w g n K X) (hs : SameK (fun b => b = g ∨ K b) w w') (hz : w.heap.size ≤ w'.heap.size) : RowB w' g n K X := by
  refine ⟨?_, fun j hj => ?_⟩
  · obtain ⟨cs, hc⟩ := h.blk
    exact ⟨cs, (hs g (.inl rfl)).trans hc⟩
  · obtain ⟨B, m, d, h1, h2, h3⟩ := h.at_ j hj
    exact ⟨B, m, d, (hs.cell (a := ⟨g, j * 2, none⟩) (.inl rfl)).trans h1, (hs.cell (a := ⟨g, j * 2 + 1, none⟩) (.inl rfl)).trans h2, h3.keep (hs.mono fun b hb => .inr hb) hz⟩
theorem RowB.mono {w : World} {g n : Nat} {K K' : Nat → Prop} {X : Nat → LP} (h : RowB w g n K X) (hk : ∀ b, b < w.heap.size → K b → K' b) : RowB w g n K' X := by
  refine ⟨h.blk, fun j hj => ?_⟩
  obtain ⟨B, m, d, h1, h2, h3⟩ := h.at_ j hj
  exact ⟨B, m, d, h1, h2, h3.mono hk⟩
theorem SLK.setCell {w : World} {K : Nat → Prop} {B : Option Addr} {m d g i : Nat} {xs : List Int} {v : Value} (h : SLK K w B m d xs) (hg : ¬ K g) : SLK K (w.setCell ⟨g, i, none⟩ v) B m d xs :=
  ⟨h.sl.setCell (fun hn ad e hb => hg (by rw [← hb]; exact h.inK hn ad e)) i v, h.inK⟩
theorem RowB.congr {w : World} {g n : Nat} {K : Nat → Prop} {X Y : Nat → LP} (h : RowB w g n K X) (he : ∀ j, j < n → X j = Y j) : RowB w g n K Y := by
  refine ⟨h.blk, fun j hj => ?_⟩
  rw [← he j hj]
  exact h.at_ j hj
theorem RowB.below {w w' : World} {g n : Nat} {K : Nat → Prop} {X : Nat → LP} (h : RowB w g n K X) (hb : Below w.heap.size w w') : RowB w' g n K X := by
  refine ⟨?_, fun j hj => ?_⟩
  · obtain ⟨cs, hc⟩ := h.blk
    exact ⟨cs, hc.below hb hc.lt⟩
  · obtain ⟨B, m, d, h1, h2, h3⟩ := h.at_ j hj
    exact ⟨B, m, d, (hb.cell (p := ⟨g, j * 2, none⟩) h.lt).trans h1, (hb.cell (p := ⟨g, j * 2 + 1, none⟩) h.lt).trans h2, ⟨h3.sl.below hb, h3.inK⟩⟩
theorem RowB.frozen {w : World} {g n : Nat} {K : Nat → Prop} {X : Nat → LP} (h : RowB w g n K X) (i : Nat) : w.frozen? ⟨g, i, none⟩ = false := by
  obtain ⟨cs, hc⟩ := h.blk
  exact hc.frozen i
theorem RowB.set_ {w : World} {g n k : Nat} {K : Nat → Prop} {X : Nat → LP} {x : LP} {B : Option Addr} {m d : Nat} (h : RowB w g n K X) (hg : ¬ K g) (hk : k < n) (hs : SLK K w B m d (LP.canon x).2) :
    RowB ((w.setCell ⟨g, k * 2, none⟩ (.int .i64 (LP.canon x).1)).setCell ⟨g, k * 2 + 1, none⟩ (.slice B m d)) g n K (fun j => if j = k then x else X j) := by
  obtain ⟨cs, hc⟩ := h.blk
  have hc0 := hc.set_ (k * 2) (.int .i64 (LP.canon x).1)
  have hc1 := hc0.set_ (k * 2 + 1) (.slice B m d)
  obtain ⟨_, _, _, hk0, hk1, _⟩ := h.at_ k hk
  rw [hc.cell] at hk0 hk1
  obtain ⟨z0, _⟩ := Array.getElem?_eq_some_iff.1 hk0
  obtain ⟨z1, _⟩ := Array.getElem?_eq_some_iff.1 hk1
  refine ⟨⟨_, hc1⟩, fun j hj => ?_⟩
  show ∃ B_1 m_1 d_1, _
  by_cases e : j = k
  · subst e
    rw [if_pos rfl]
    refine ⟨B, m, d, ?_, ?_, (hs.setCell hg).setCell hg⟩
    · rw [hc1.cell, Array.getElem?_setIfInBounds, if_neg (by omega), Array.getElem?_setIfInBounds, if_pos rfl, if_pos (by simpa using z0)]
    · rw [hc1.cell, Array.getElem?_setIfInBounds, if_pos rfl, if_pos (by simpa using z1)]
  · rw [if_neg e]
    obtain ⟨B', m', d', h1, h2, h3⟩ := h.at_ j hj
    rw [hc.cell] at h1 h2
    refine ⟨B', m', d', ?_, ?_, (h3.setCell hg).setCell hg⟩
    · rw [hc1.cell, Array.getElem?_setIfInBounds, if_neg (by omega), Array.getElem?_setIfInBounds, if_neg (by omega)]; exact h1
    · rw [hc1.cell, Array.getElem?_setIfInBounds, if_neg (by omega), Array.getElem?_setIfInBounds, if_neg (by omega)]; exact h2
end Go.Proofs.Ytoaiblhlpdaeoaa
/- Maps from integers to integers as lists of terms; a range over one, whatever its order. -/
namespace Go.Proofs.Ytoaiblhlpdaeoaa
set_option linter.unusedVariables false
set_option linter.unusedSimpArgs false
open Go.RowKit Go.Maps

theorem keyI : Keyed Try.prog 3 := int_keyed Try.underlying3
theorem keyI_mk {x : Int} (h : (Lit.int .i64 x).wf = true) : keyOf Try.prog 3 (.int .i64 x) = some (.int .i64 x) := keyOf_int_mk Try.underlying3 h
theorem wfI {x : Int} (h : x.natAbs ≤ 4000000000000000000) : (Lit.int .i64 x).wf = true := by
  have h1 : IntKind.i64.min = -9223372036854775808 := by decide
  simp [Lit.wf, h1]
  omega
/-- The element at a key. -/
def lookT : List Tm → Int → Option Int
  | [], _ => none
  | (e, c) :: l, x => if e = x then some c else lookT l x
def lookV (o : List Tm) : Value → Option Value
  | .int .i64 x => (lookT o x).map (Value.int .i64)
  | _ => none
theorem lookT_of_mem : ∀ {o : List Tm} {x c : Int}, (o.map (·.1)).Nodup → (x, c) ∈ o → lookT o x = some c
  | (e, d) :: l, x, c, hn, h => by
    have hn' := List.nodup_cons.1 hn
    unfold lookT
    rcases List.mem_cons.1 h with h | h
    · injection h with h1 h2
      subst h1; subst h2
      rw [if_pos rfl]
    · have : e ≠ x := fun e' => hn'.1 (by rw [e']; exact List.mem_map.2 ⟨(x, c), h, rfl⟩)
      rw [if_neg this]
      exact lookT_of_mem hn'.2 h
theorem coefT_not {o : List Tm} {x : Int} (h : ∀ p ∈ o, p.1 ≠ x) : coefT o x = 0 := by
  induction o with
  | nil => rfl
  | cons p l ih =>
    show (if p.1 = x then p.2 else 0) + coefT l x = 0
    rw [if_neg (h p (by simp)), ih fun q hq => h q (by simp [hq])]
    rfl
theorem coefT_look : ∀ {o : List Tm} {x : Int}, (o.map (·.1)).Nodup → coefT o x = (lookT o x).getD 0
  | [], x, _ => rfl
  | (e, d) :: l, x, hn => by
    have hn' := List.nodup_cons.1 hn
    show (if e = x then d else 0) + coefT l x = _
    unfold lookT
    by_cases h : e = x
    · rw [if_pos h, if_pos h, coefT_not fun p hp e' => hn'.1 (by rw [h, ← e']; exact List.mem_map.2 ⟨p, hp, rfl⟩)]
      show d + 0 = d
      omega
    · rw [if_neg h, if_neg h, coefT_look hn'.2, Int.zero_add]
/-- v is put at x. -/
def putT : List Tm → Int → Int → List Tm
  | [], x, v => [(x, v)]
  | (e, c) :: l, x, v => if e = x then (x, v) :: l else (e, c) :: putT l x v
theorem putT_keys : ∀ (o : List Tm) (x v : Int), ∀ p ∈ putT o x v, p ∈ o ∨ p = (x, v)
  | [], x, v, p, h => .inr (by simpa [putT] using h)
  | (e, c) :: l, x, v, p, h => by
    unfold putT at h
    by_cases he : e = x
    · rw [if_pos he] at h
      rcases List.mem_cons.1 h with h | h
      · exact .inr h
      · exact .inl (List.mem_cons_of_mem _ h)
    · rw [if_neg he] at h
      rcases List.mem_cons.1 h with h | h
      · exact .inl (by rw [h]; exact List.mem_cons_self)
      · rcases putT_keys l x v p h with h | h
        · exact .inl (List.mem_cons_of_mem _ h)
        · exact .inr h
theorem putT_look : ∀ (o : List Tm) (x v y : Int), lookT (putT o x v) y = if y = x then some v else lookT o y
  | [], x, v, y => by
    show (if x = y then some v else none) = if y = x then some v else none
    by_cases h : x = y
    · rw [if_pos h, if_pos h.symm]
    · rw [if_neg h, if_neg fun e => h e.symm]
  | (e, c) :: l, x, v, y => by
    unfold putT
    by_cases he : e = x
    · rw [if_pos he]
      show (if x = y then some v else lookT l y) = if y = x then some v else if e = y then some c else lookT l y
      by_cases h : x = y
      · rw [if_pos h, if_pos h.symm]
      · rw [if_neg h, if_neg fun e' => h e'.symm, if_neg (by omega)]
    · rw [if_neg he]
      show (if e = y then some c else lookT (putT l x v) y) = if y = x then some v else if e = y then some c else lookT l y
      rw [putT_look l x v y]
      by_cases h : e = y
      · rw [if_pos h, if_pos h, if_neg (by omega)]
      · rw [if_neg h, if_neg h]
theorem putT_nodup : ∀ (o : List Tm) (x v : Int), (o.map (·.1)).Nodup → ((putT o x v).map (·.1)).Nodup
  | [], x, v, _ => by simp [putT]
  | (e, c) :: l, x, v, h => by
    have h' := List.nodup_cons.1 h
    unfold putT
    by_cases he : e = x
    · rw [if_pos he]
      subst he
      exact h
    · rw [if_neg he]
      refine List.nodup_cons.2 ⟨fun hm => ?_, putT_nodup l x v h'.2⟩
      obtain ⟨p, hp, e1⟩ := List.mem_map.1 hm
      rcases putT_keys l x v p hp with h1 | h1
      · exact h'.1 (by rw [← show p.1 = e from e1]; exact List.mem_map.2 ⟨p, h1, rfl⟩)
      · rw [h1] at e1
        exact he e1.symm
theorem putT_length : ∀ (o : List Tm) (x v : Int), (putT o x v).length = if (lookT o x).isSome then o.length else o.length + 1
  | [], x, v => rfl
  | (e, c) :: l, x, v => by
    unfold putT lookT
    by_cases he : e = x
    · rw [if_pos he, if_pos he]; rfl
    · rw [if_neg he, if_neg he]
      show (putT l x v).length + 1 = _
      rw [putT_length l x v]
      split <;> rfl
/-- Block b is a map with just the entries o. -/
structure MapI (w : World) (b : Nat) (o : List Tm) : Prop where
  dict : Dict Try.prog 3 w b o.length (lookV o)
  nodup : (o.map (·.1)).Nodup
section
variable {w w' : World} {b : Nat} {o : List Tm}
theorem MapI.lt (h : MapI w b o) : b < w.heap.size := h.dict.lt
theorem MapI.below (h : MapI w b o) (hb : Below w.heap.size w w') : MapI w' b o := ⟨h.dict.below hb, h.nodup⟩
theorem MapI.kept {row : Option Nat} (h : MapI w b o) (hg : w.grownBy w' row) (hne : some b ≠ row) : MapI w' b o := ⟨h.dict.kept hg hne, h.nodup⟩
theorem MapI.made (w : World) : MapI (w.alloc (.map #[] 0)) w.heap.size [] := ⟨(Dict.made w _ _).congr rfl fun key kl _ => by unfold lookV; split <;> rfl, List.nodup_nil⟩
theorem MapI.store (h : MapI w b o) {t : TypeId} (ht : Try.prog.underlying t = some (.map 3 3)) {x v : Int} (hx : (Lit.int .i64 x).wf = true) (hn : o.length < 1000000) :
    ∃ w', (Instr.mapUpdate t (.map (some b)) (.int .i64 x) (.int .i64 v)).run Try.prog w = .ok () w' ∧ MapI w' b (putT o x v) ∧ w.grownBy w' (some b) ∧ w'.heap.size = w.heap.size := by
  obtain ⟨w', h1, h2, h3, h4⟩ := h.dict.store keyI ht (by unfold maxLen; omega) (keyI_mk hx) (.int .i64 v) (f' := lookV (putT o x v)) (by
    show ((lookT (putT o x v) x).map _) = _
    rw [putT_look, if_pos rfl]; rfl) (fun y l hy hne => by
    obtain ⟨z, rfl, _, _⟩ := keyOf_int_inv Try.underlying3 hy
    show ((lookT (putT o x v) z).map _) = (lookT o z).map _
    rw [putT_look, if_neg fun e => hne (by rw [e])])
  refine ⟨w', h1, ⟨h2.congr ?_ fun _ _ _ => rfl, putT_nodup o x v h.nodup⟩, h3, h4⟩
  rw [putT_length]
  show (if ((lookT o x).map (Value.int .i64)).isSome = true then _ else _) = _
  rw [Option.isSome_map]
end

/-! ### a range -/
/-- A range over the map with entries T: done and rem(aining). -/
structure RangeI (w : World) (b r : Nat) (T done rem : List Tm) (cnt : Nat) : Prop where
  nodup : (T.map (·.1)).Nodup
  perm : (done ++ rem).Perm T
  run : ∃ (n : Nat) (D : DataW Value) (left : Lit → Bool), w.ranges Try.prog 3 HR b r n D left cnt ∧ (∀ p ∈ T, ∀ z, D.atKey (.int .i64 p.1) z = .held (.int .i64 p.2)) ∧ (∀ x : Int, (Lit.int .i64 x).wf = true → (left (.int .i64 x) = true ↔ ∃ c, (x, c) ∈ rem)) ∧ ∀ p ∈ T, (Lit.int .i64 p.1).wf = true
section
variable {w w' : World} {b r cnt : Nat} {T done rem : List Tm}
theorem RangeI.kept {row : Option Nat} (h : RangeI w b r T done rem cnt) (hg : w.grownBy w' row) (hb : some b ≠ row) (hr : some r ≠ row) : RangeI w' b r T done rem cnt := by
  obtain ⟨n, D, left, h1, h2⟩ := h.run
  exact ⟨h.nodup, h.perm, n, D, left, h1.kept hg hb hr, h2⟩
theorem RangeI.lt (h : RangeI w b r T done rem cnt) : r < w.heap.size := by
  obtain ⟨n, D, left, h1, _⟩ := h.run
  exact h1.lt
theorem RangeI.mem (h : RangeI w b r T done rem cnt) : ∀ p ∈ done, p ∈ T := fun p hp => h.perm.subset (List.mem_append_left _ hp)
end
section
variable (w : World) {ops : Array Oper} {rest : List Oper} {o : Oper} {a : Act} {Q : Exit → Act → World → Prop}
end
end Go.Proofs.Ytoaiblhlpdaeoaa
/- timbref1.Split; the walk's laws for a map of terms. -/
namespace Go.Proofs.Ytoaiblhlpdaeoaa
set_option linter.unusedVariables false
set_option linter.unusedSimpArgs false
open Go.RowKit Go.Maps

theorem MapI.setCell {w : World} {b : Nat} {o : List Tm} (h : MapI w b o) {g : Addr} (hg : b ≠ g.block) (v : Value) : MapI (w.setCell g v) b o := ⟨h.dict.setCell hg v, h.nodup⟩
/-- What is in a map of terms is the coefficient. -/
theorem MapI.val {w : World} {b : Nat} {o : List Tm} (h : MapI w b o) {x c : Int} (hm : (x, c) ∈ o) : coefT o x = c := by rw [coefT_look h.nodup, lookT_of_mem h.nodup hm]; rfl
section
variable (w : World) {ops : Array Oper} {rest : List Oper} {o : Oper} {a : Act} {Q : Exit → Act → World → Prop}
end
/-- A new map of terms that reads as x; its keys are not far off. -/
def GivesT (w : World) (x : LP) (E : Nat) (e : Ending) (w' : World) : Prop :=
  ∃ b o, e = .returned (.map (some b)) ∧ w.heap.size ≤ b ∧ MapI w' b o ∧ LP.mk o = x ∧ (∀ p ∈ o, p.1.natAbs ≤ E) ∧ Below w.heap.size w w'
end Go.Proofs.Ytoaiblhlpdaeoaa
/- timbref1.Terms.Plus and Mul. -/
namespace Go.Proofs.Ytoaiblhlpdaeoaa
set_option linter.unusedVariables false
set_option linter.unusedSimpArgs false
open Go.RowKit Go.Maps

section
variable {w w' : World} {b r cnt : Nat} {T done rem : List Tm} {x c : Int}
theorem RangeI.all (h : RangeI w b r T done [] cnt) : done.Perm T := by
  have := h.perm
  rwa [List.append_nil] at this
end

end Go.Proofs.Ytoaiblhlpdaeoaa
/- timbref1.Terms.Poly. -/
namespace Go.Proofs.Ytoaiblhlpdaeoaa
set_option linter.unusedVariables false
set_option linter.unusedSimpArgs false
open Go.RowKit Go.Maps

/-- What the first loop of Poly knows of the terms that it has seen. -/
def LH (done : List Tm) (low high : Int) (any : Bool) : Prop :=
  match any with
  | false => (∀ p ∈ done, p.2 = 0) ∧ low = 0 ∧ high = 0
  | true => (∃ c, c ≠ 0 ∧ (low, c) ∈ done) ∧ (∃ c, c ≠ 0 ∧ (high, c) ∈ done) ∧ ∀ p ∈ done, p.2 ≠ 0 → low ≤ p.1 ∧ p.1 ≤ high
theorem LH.zero {done : List Tm} {low high : Int} {any : Bool} (h : LH done low high any) (x : Int) : LH (done ++ [(x, 0)]) low high any := by
  cases any with
  | false => exact ⟨fun p hp => by rcases List.mem_append.1 hp with hp | hp; exact h.1 p hp; rw [List.mem_singleton.1 hp], h.2⟩
  | true =>
    obtain ⟨⟨c, hc, h1⟩, ⟨d, hd, h2⟩, h3⟩ := h
    refine ⟨⟨c, hc, List.mem_append_left _ h1⟩, ⟨d, hd, List.mem_append_left _ h2⟩, fun p hp h0 => ?_⟩
    rcases List.mem_append.1 hp with hp | hp
    · exact h3 p hp h0
    · rw [List.mem_singleton.1 hp] at h0; exact absurd rfl h0
theorem LH.first {done : List Tm} {low high : Int} (h : LH done low high false) (x : Int) {c : Int} (hc : c ≠ 0) : LH (done ++ [(x, c)]) x x true := by
  refine ⟨⟨c, hc, by simp⟩, ⟨c, hc, by simp⟩, fun p hp h0 => ?_⟩
  rcases List.mem_append.1 hp with hp | hp
  · exact absurd (h.1 p hp) h0
  · rw [List.mem_singleton.1 hp]; exact ⟨Int.le_refl _, Int.le_refl _⟩
theorem LH.next {done : List Tm} {low high : Int} (h : LH done low high true) (x : Int) {c : Int} (hc : c ≠ 0) : LH (done ++ [(x, c)]) (if x < low then x else low) (if high < x then x else high) true := by
  obtain ⟨⟨c1, hc1, h1⟩, ⟨d, hd, h2⟩, h3⟩ := h
  refine ⟨?_, ?_, fun p hp h0 => ?_⟩
  · by_cases e : x < low
    · rw [if_pos e]; exact ⟨c, hc, by simp⟩
    · rw [if_neg e]; exact ⟨c1, hc1, List.mem_append_left _ h1⟩
  · by_cases e : high < x
    · rw [if_pos e]; exact ⟨c, hc, by simp⟩
    · rw [if_neg e]; exact ⟨d, hd, List.mem_append_left _ h2⟩
  · rcases List.mem_append.1 hp with hp | hp
    · have := h3 p hp h0
      split <;> split <;> omega
    · rw [List.mem_singleton.1 hp]
      show (if x < low then x else low) ≤ x ∧ x ≤ (if high < x then x else high)
      split <;> split <;> omega
end Go.Proofs.Ytoaiblhlpdaeoaa
/- Maps of terms as values: products, sums, polynomials of them; slices of maps. -/
namespace Go.Proofs.Ytoaiblhlpdaeoaa
set_option linter.unusedVariables false
set_option linter.unusedSimpArgs false
open Go.RowKit

/-- Block b is a map of terms that reads as x, with keys within E. -/
def TV (w : World) (b : Nat) (x : LP) (E : Nat) : Prop := ∃ T, MapI w b T ∧ LP.mk T = x ∧ ∀ p ∈ T, p.1.natAbs ≤ E
theorem TV.lt {w : World} {b : Nat} {x : LP} {E : Nat} (h : TV w b x E) : b < w.heap.size := by obtain ⟨T, h, _⟩ := h; exact h.lt
theorem TV.mono {w : World} {b : Nat} {x : LP} {E E' : Nat} (h : TV w b x E) (he : E ≤ E') : TV w b x E' := by
  obtain ⟨T, h1, h2, h3⟩ := h; exact ⟨T, h1, h2, fun p hp => Nat.le_trans (h3 p hp) he⟩
theorem TV.same {w w' : World} {b : Nat} {x : LP} {E : Nat} (h : TV w b x E) (hb : w'.heap[b]? = w.heap[b]?) : TV w' b x E := by
  obtain ⟨T, h1, h2, h3⟩ := h
  refine ⟨T, ⟨?_, h1.nodup⟩, h2, h3⟩
  obtain ⟨D, ⟨es, clock, hbl, r1⟩, r⟩ := h1.dict.own
  exact ⟨⟨D, ⟨es, clock, hb.trans hbl, r1⟩, r⟩⟩
theorem TV.below {w w' : World} {b : Nat} {x : LP} {E : Nat} (h : TV w b x E) (hb : Below w.heap.size w w') : TV w' b x E := h.same (hb.block b h.lt)
/-- A new map that reads as x. -/
def GivesV (w : World) (x : LP) (E : Nat) (e : Ending) (w' : World) : Prop := ∃ b, e = .returned (.map (some b)) ∧ w.heap.size ≤ b ∧ TV w' b x E ∧ Below w.heap.size w w'
theorem GivesT.v {w : World} {x : LP} {E : Nat} {e : Ending} {w' : World} (h : GivesT w x E e w') : GivesV w x E e w' := by
  obtain ⟨b, o, h1, h2, h3, h4, h5, h6⟩ := h
  exact ⟨b, h1, h2, ⟨o, h3, h4, h5⟩, h6⟩
end Go.Proofs.Ytoaiblhlpdaeoaa
/- slices.Clone of a slice of rows of polynomials. -/
namespace Go.Proofs.Ytoaiblhlpdaeoaa
set_option linter.unusedVariables false
set_option linter.unusedSimpArgs false
open Go.RowKit

/-- The values are slices that read as the rows. -/
structure RowsP (w : World) (vs : List Value) (xss : List (List Po)) : Prop where
  len : vs.length = xss.length
  row : ∀ j, j < xss.length → ∃ B m d, vs[j]? = some (.slice B m d) ∧ SPo w B m d (xss.getD j [])
theorem RowsP.below {w w' : World} {vs : List Value} {xss : List (List Po)} (h : RowsP w vs xss) (hb : Below w.heap.size w w') : RowsP w' vs xss := ⟨h.len, fun j hj => by
  obtain ⟨B, m, d, h1, h2⟩ := h.row j hj
  exact ⟨B, m, d, h1, h2.below hb⟩⟩
theorem RowsP.set_ {w : World} {vs : List Value} {xss : List (List Po)} {j : Nat} {B : Option Addr} {m d : Nat} {r : List Po} (h : RowsP w vs xss) (hs : SPo w B m d r) : RowsP w (vs.set j (.slice B m d)) (xss.set j r) := by
  refine ⟨by simp [h.len], fun i hi => ?_⟩
  rw [List.length_set] at hi
  by_cases e : j = i
  · subst e
    refine ⟨B, m, d, by rw [List.getElem?_set_self (by rw [h.len]; exact hi)], ?_⟩
    have : (xss.set j r).getD j [] = r := by simp [List.getD, List.getElem?_set_self hi]
    rw [this]
    exact hs
  · obtain ⟨B', m', d', h1, h2⟩ := h.row i hi
    refine ⟨B', m', d', by rw [List.getElem?_set_ne e]; exact h1, ?_⟩
    have : (xss.set j r).getD i [] = xss.getD i [] := by simp [List.getD, List.getElem?_set_ne e]
    rw [this]
    exact h2
end Go.Proofs.Ytoaiblhlpdaeoaa
/- Package braid: identity; the matrix as the call builds it. -/
namespace Go.Proofs.Ytoaiblhlpdaeoaa
set_option linter.unusedVariables false
set_option linter.unusedSimpArgs false
open Go.RowKit

theorem RowB.grown {w w' : World} {g g' n : Nat} {K : Nat → Prop} {X : Nat → LP} (h : RowB w g n K X) (hg : w.grownBy w' (some g')) (hne : g' ≠ g) (hK : ∀ b, K b → b ≠ g') : RowB w' g n K X :=
  ((h.mono (K' := fun b => b < w.heap.size ∧ K b) fun b hl hb => ⟨hl, hb⟩).keep (fun b hb => by
    rcases hb with rfl | ⟨hl, hb⟩
    · exact hg.block b h.lt (fun e => hne (by injection e with e; exact e.symm))
    · exact hg.block b hl (fun e => hK b hb (by injection e))) hg.size).mono fun b _ hb => hb.2
/-- None of the blocks of the matrix. -/
def FreB (go : Nat) (gr : Nat → Nat) (k : Nat) (b : Nat) : Prop := b ≠ go ∧ ∀ i, i < k → gr i ≠ b
/-- The first k rows of a matrix. -/
structure MatB (w : World) (base go n : Nat) (gr : Nat → Nat) (k : Nat) (X : Mtx LP) : Prop where
  blk : ∃ cs, Blk w go 58 cs
  out : ∀ i, i < k → w.cell? ⟨go, i, none⟩ = some (.slice (some ⟨gr i, 0, none⟩) n n)
  row : ∀ i, i < k → RowB w (gr i) n (FreB go gr k) (X i)
  ne : ∀ i, i < k → gr i ≠ go
  inj : ∀ i j, i < k → j < k → gr i = gr j → i = j
  base_le : base ≤ go ∧ ∀ i, i < k → base ≤ gr i
theorem MatB.lt {w : World} {base go n : Nat} {gr : Nat → Nat} {k : Nat} {X : Mtx LP} (h : MatB w base go n gr k X) : go < w.heap.size := by
  obtain ⟨cs, hc⟩ := h.blk
  exact hc.lt
/-- A row has changed. -/
theorem MatB.chg {w w' : World} {base go n : Nat} {gr : Nat → Nat} {k : Nat} {X Y : Mtx LP} (h : MatB w base go n gr k X) {r : Nat} (hr : r < k) (hg : w.grownBy w' (some (gr r))) (hrow : RowB w' (gr r) n (FreB go gr k) (Y r)) (hY : ∀ i, i < k → i ≠ r → ∀ c, c < n → X i c = Y i c) : MatB w' base go n gr k Y := by
  have hgo : w'.heap[go]? = w.heap[go]? := hg.block go h.lt (fun e => h.ne r hr (by injection e with e; exact e.symm))
  refine ⟨?_, fun i hi => ?_, fun i hi => ?_, h.ne, h.inj, h.base_le⟩
  · obtain ⟨cs, hc⟩ := h.blk
    exact ⟨cs, hgo.trans hc⟩
  · rw [← h.out i hi]
    exact World.cell?_of_block (w := w) (a := ⟨go, i, none⟩) hgo
  · by_cases e : i = r
    · subst e; exact hrow
    · exact ((h.row i hi).grown hg (fun e2 => e (h.inj i r hi hr e2.symm)) (fun b hb e2 => hb.2 r hr e2.symm)).congr (hY i hi e)
theorem MatB.below {w w' : World} {base go n : Nat} {gr : Nat → Nat} {k : Nat} {X : Mtx LP} (h : MatB w base go n gr k X) (hb : Below w.heap.size w w') : MatB w' base go n gr k X := by
  refine ⟨?_, fun i hi => ?_, fun i hi => (h.row i hi).below hb, h.ne, h.inj, h.base_le⟩
  · obtain ⟨cs, hc⟩ := h.blk
    exact ⟨cs, hc.below hb hc.lt⟩
  · rw [← h.out i hi]
    exact hb.cell (p := ⟨go, i, none⟩) h.lt
theorem MatB.congr {w : World} {base go n : Nat} {gr : Nat → Nat} {k : Nat} {X Y : Mtx LP} (h : MatB w base go n gr k X) (hY : ∀ i, i < k → ∀ c, c < n → X i c = Y i c) : MatB w base go n gr k Y :=
  ⟨h.blk, h.out, fun i hi => (h.row i hi).congr (hY i hi), h.ne, h.inj, h.base_le⟩
/-- A new row of zeros. -/
theorem RowB.zero {w : World} {base g n : Nat} {K : Nat → Prop} (h : w.ownsRow base 54 2 (.slice (some ⟨g, 0, none⟩) n n) n (madeCells #[.int .i64 0, .slice none 0 0] (n * 2)).toList) (hn : n ≤ 1000) : RowB w g n K (fun _ => 0) := by
  have ho : OwnG 54 2 w base (some ⟨g, 0, none⟩) n n (madeCells #[.int .i64 0, .slice none 0 0] (n * 2)).toList := ⟨h, by omega⟩
  obtain ⟨cs, _, hc⟩ := ho.cells g rfl
  refine ⟨⟨cs, hc⟩, fun j hj => ⟨none, 0, 0, ?_, ?_, ?_⟩⟩
  · show w.cell? _ = some (.int .i64 (LP.canon 0).1)
    rw [ho.cellAt (by omega), canon_zero, Array.getElem?_toList]
    unfold madeCells
    simp [show j * 2 < n * 2 by omega]
  · rw [ho.cellAt (by omega), Array.getElem?_toList]
    unfold madeCells
    simp [show j * 2 + 1 < n * 2 by omega]
  · show SLK K w none 0 0 (LP.canon 0).2
    rw [canon_zero]
    exact ⟨SL.nil_ _, fun h0 => absurd h0 (by omega)⟩
end Go.Proofs.Ytoaiblhlpdaeoaa
/- Package laurent: trimmed. -/
namespace Go.Proofs.Ytoaiblhlpdaeoaa
set_option linter.unusedVariables false
set_option linter.unusedSimpArgs false
open Go.RowKit

/-- Both lie in the same block. -/
def SameBlk (A B : Option Addr) : Prop := ∃ ad ad', A = some ad ∧ B = some ad' ∧ ad'.block = ad.block
theorem SameBlk.new {w : World} {A B : Option Addr} {n m : Nat} (h : 0 < m → SameBlk A B) (hn : 0 < m → 0 < n) (hA : NewA w A n) : NewA w B m := fun hm ad e => by
  obtain ⟨a, b, e1, e2, e3⟩ := h hm
  rw [e] at e2
  injection e2 with e2
  rw [e2, e3]
  exact hA (hn hm) a e1

end Go.Proofs.Ytoaiblhlpdaeoaa
/- Package braid: identity. -/
namespace Go.Proofs.Ytoaiblhlpdaeoaa
set_option linter.unusedVariables false
set_option linter.unusedSimpArgs false
open Go.RowKit

theorem MatB.start {w : World} {base go n : Nat} {X : Mtx LP} {cs : Array Value} (h : Blk w go 58 cs) (hb : base ≤ go) : MatB w base go n (fun _ => 0) 0 X :=
  ⟨⟨_, h⟩, fun i hi => absurd hi (by omega), fun i hi => absurd hi (by omega), fun i hi => absurd hi (by omega), fun i j hi => absurd hi (by omega), hb, fun i hi => absurd hi (by omega)⟩
/-- One row more. -/
theorem MatB.more {w w' : World} {base go n : Nat} {gr : Nat → Nat} {k : Nat} {X : Mtx LP} {v : Value} (h : MatB w base go n gr k X) {g : Nat} (hb : Below w.heap.size w w') (hg : w.heap.size ≤ g) (hbase : base ≤ w.heap.size) (hc : w.cell? ⟨go, k, none⟩ = some v) (hrow : ∀ K, RowB w' g n K (X k)) :
    MatB (w'.setCell ⟨go, k, none⟩ (.slice (some ⟨g, 0, none⟩) n n)) base go n (fun i => if i = k then g else gr i) (k + 1) X := by
  have hlt := h.lt
  have hc' : w'.cell? ⟨go, k, none⟩ = some v := (hb.cell (p := ⟨go, k, none⟩) hlt).trans hc
  have hne : ∀ i, i < k → (if i = k then g else gr i) = gr i := fun i hi => if_neg (by omega)
  have hch : w'.grownBy (w'.setCell ⟨go, k, none⟩ (.slice (some ⟨g, 0, none⟩) n n)) (some go) := chg_set
  have hgl : ∀ i, i < k → gr i < w.heap.size := fun i hi => (h.row i hi).lt
  refine ⟨?_, fun i hi => ?_, fun i hi => ?_, fun i hi => ?_, fun i j hi hj e => ?_, h.base_le.1, fun i hi => ?_⟩
  · obtain ⟨cs, hcs⟩ := (h.below hb).blk
    exact ⟨_, hcs.set_ k _⟩
  · by_cases e : i = k
    · subst e
      show _ = some (Value.slice (some ⟨if i = i then g else gr i, 0, none⟩) n n)
      rw [if_pos rfl]
      exact World.cell?_setCell_same w' _ _ hc'
    · show _ = some (Value.slice (some ⟨if i = k then g else gr i, 0, none⟩) n n)
      rw [if_neg e, World.cell?_setCell_other w' _ _ _ (by intro h2; simp only [Addr.mk.injEq] at h2; omega)]
      exact (h.below hb).out i (by omega)
  · show RowB _ (if i = k then g else gr i) n _ (X i)
    have hF : ∀ b, FreB go (fun i => if i = k then g else gr i) (k + 1) b → b ≠ go := fun b hb => hb.1
    by_cases e : i = k
    · subst e
      rw [if_pos rfl]
      exact (hrow _).grown hch (by omega) hF
    · rw [if_neg e]
      have h1 := (h.row i (by omega)).mono (K' := FreB go (fun i => if i = k then g else gr i) (k + 1)) fun b hbl hf => ⟨hf.1, fun j hj => by
        show (if j = k then g else gr j) ≠ b
        split
        · omega
        · exact hf.2 j (by omega)⟩
      exact (h1.below hb).grown hch (fun e2 => h.ne i (by omega) e2.symm) hF
  · show (if i = k then g else gr i) ≠ go
    split
    · omega
    · exact h.ne i (by omega)
  · replace e : (if i = k then g else gr i) = (if j = k then g else gr j) := e
    by_cases e1 : i = k
    · by_cases e2 : j = k
      · omega
      · rw [if_pos e1, if_neg e2] at e
        have := hgl j (by omega)
        omega
    · by_cases e2 : j = k
      · rw [if_neg e1, if_pos e2] at e
        have := hgl i (by omega)
        omega
      · rw [if_neg e1, if_neg e2] at e
        exact h.inj i j (by omega) (by omega) e
  · show base ≤ (if i = k then g else gr i)
    split
    · omega
    · exact h.base_le.2 i (by omega)
end Go.Proofs.Ytoaiblhlpdaeoaa
