/- Several texts of the walk in one. -/
import Derived.Test.YtldfnfhommbokaaPart1
import Derived.Test.YtldfnfhommbokaaPart6
import Derived.Test.YtldfnfhommbokaaPart2
import Derived.Test.YtldfnfhommbokaaPart4
/- Reading slices of anything within a set of blocks; slices that the call builds item by item. -/
namespace Go.Proofs.Ytldfnfhommbokaa
set_option linter.unusedVariables false
set_option linter.unusedSimpArgs false
open Go.RowKit

/-- The blocks of K are as they were. -/
def SameK (K : Nat → Prop) (w w' : World) : Prop := ∀ b, K b → w'.heap[b]? = w.heap[b]?
theorem SameK.cell {K : Nat → Prop} {w w' : World} (h : SameK K w w') {a : Addr} (ha : K a.block) : w'.cell? a = w.cell? a := World.cell?_of_block (w := w) (h a.block ha)
theorem SameK.below {B : Nat} {w w' : World} (h : Below B w w') : SameK (fun b => b < B) w w' := fun b hb => h.block b hb
theorem SameK.grown {w w' : World} {row : Option Nat} (h : w.grownBy w' row) : SameK (fun b => b < w.heap.size ∧ row ≠ some b) w w' := fun b hb => h.block b hb.1 (fun e => hb.2 e.symm)
theorem SameK.mono {K K' : Nat → Prop} {w w' : World} (h : SameK K w w') (hk : ∀ b, K' b → K b) : SameK K' w w' := fun b hb => h b (hk b hb)
theorem cell_lt {w : World} {a : Addr} {v : Value} (h : w.cell? a = some v) : a.block < w.heap.size := by
  rcases Nat.lt_or_ge a.block w.heap.size with h1 | h1
  · exact h1
  · unfold World.cell? at h
    rw [show w.heap[a.block]? = none by simpa using h1] at h
    cases h

/-- A reading of an item out of its cells: it looks at blocks of K alone. -/
abbrev RdI (α : Type) := (Nat → Prop) → World → List Value → α → Prop
structure RdOk {α : Type} (Q : RdI α) : Prop where
  keep : ∀ {K : Nat → Prop} {w w' : World} {us : List Value} {y : α}, SameK K w w' → w.heap.size ≤ w'.heap.size → Q K w us y → Q K w' us y
  mono : ∀ {K K' : Nat → Prop} {w : World} {us : List Value} {y : α}, (∀ b, b < w.heap.size → K b → K' b) → Q K w us y → Q K' w us y

/-- A slice that reads as ys; each item takes sz cells. -/
structure RdS {α : Type} (Q : RdI α) (sz : Nat) (K : Nat → Prop) (w : World) (A : Option Addr) (n c : Nat) (ys : List α) : Prop where
  len : ys.length = n
  small : n ≤ 17592186044416
  nil : A = none → n = 0 ∧ c = 0
  cap : n ≤ c
  mem : 0 < n → ∃ ad, A = some ad ∧ ad.block < w.heap.size ∧ K ad.block ∧ ∀ j (hj : j < ys.length), ∃ us : List Value, us.length = sz ∧ w.cell? (ad.add (j * sz)) = us[0]? ∧ (∀ i, i < sz → w.cell? ⟨(ad.add (j * sz)).block, (ad.add (j * sz)).off + i, none⟩ = us[i]?) ∧ Q K w us ys[j]
section
variable {α : Type} {Q : RdI α} {sz n c : Nat} {K K' : Nat → Prop} {w w' : World} {A : Option Addr} {ys : List α}
theorem RdS.keep (hQ : RdOk Q) (h : RdS Q sz K w A n c ys) (hk : SameK K w w') (hs : w.heap.size ≤ w'.heap.size) : RdS Q sz K w' A n c ys :=
  ⟨h.len, h.small, h.nil, h.cap, fun hn => by
    obtain ⟨ad, e, hl, hb, hc⟩ := h.mem hn
    refine ⟨ad, e, Nat.lt_of_lt_of_le hl hs, hb, fun j hj => ?_⟩
    obtain ⟨us, h1, h0, h2, h3⟩ := hc j hj
    exact ⟨us, h1, (hk.cell (by rw [block_of_add]; exact hb)).trans h0, fun i hi => (hk.cell (by show K (ad.add (j * sz)).block; rw [block_of_add]; exact hb)).trans (h2 i hi), hQ.keep hk hs h3⟩⟩
theorem RdS.mono (hQ : RdOk Q) (h : RdS Q sz K w A n c ys) (hk : ∀ b, b < w.heap.size → K b → K' b) : RdS Q sz K' w A n c ys :=
  ⟨h.len, h.small, h.nil, h.cap, fun hn => by
    obtain ⟨ad, e, hl, hb, hc⟩ := h.mem hn
    refine ⟨ad, e, hl, hk _ hl hb, fun j hj => ?_⟩
    obtain ⟨us, h1, h0, h2, h3⟩ := hc j hj
    exact ⟨us, h1, h0, h2, hQ.mono hk h3⟩⟩
theorem RdS.nil_ (Q : RdI α) (sz : Nat) (K : Nat → Prop) (w : World) : RdS Q sz K w none 0 0 [] := ⟨rfl, by omega, fun _ => ⟨rfl, rfl⟩, Nat.le_refl _, fun h => absurd h (by omega)⟩
end
/-- A slice of slices. -/
def QS {α : Type} (Q : RdI α) (sz : Nat) : RdI (List α) := fun K w us ys => ∃ B m d, us = [.slice B m d] ∧ RdS Q sz K w B m d ys
/-- A slice as it stands in the world: all that it reads is there. -/
abbrev Rd {α : Type} (Q : RdI α) (sz : Nat) (w : World) (A : Option Addr) (n c : Nat) (ys : List α) : Prop := RdS Q sz (fun b => b < w.heap.size) w A n c ys
theorem Rd.below {α : Type} {Q : RdI α} {sz n c : Nat} {w w' : World} {A : Option Addr} {ys : List α} (hQ : RdOk Q) (h : Rd Q sz w A n c ys) (hb : Below w.heap.size w w') : Rd Q sz w' A n c ys :=
  (h.keep hQ (SameK.below hb) hb.size).mono hQ fun b _ hl => Nat.lt_of_lt_of_le hl hb.size

/-- Integers. -/
def QI : RdI Int := fun K w us y => us = [.int .i64 y]
theorem QI_ok : RdOk QI := ⟨fun _ _ h => h, fun _ h => h⟩

structure SLK (K : Nat → Prop) (w : World) (A : Option Addr) (n c : Nat) (xs : List Int) : Prop where
  sl : SL w A n c xs
  inK : 0 < n → ∀ ad, A = some ad → K ad.block
theorem SLK.keep {K : Nat → Prop} {w w' : World} {A : Option Addr} {n c : Nat} {xs : List Int} (h : SLK K w A n c xs) (hk : SameK K w w') (hs : w.heap.size ≤ w'.heap.size) : SLK K w' A n c xs :=
  ⟨⟨⟨h.sl.il.len, h.sl.il.small, fun hn => by
    obtain ⟨ad, e, hl, hc⟩ := h.sl.il.mem hn
    refine ⟨ad, e, Nat.lt_of_lt_of_le hl hs, fun j hj => ?_⟩
    rw [← hc j hj]
    exact hk.cell (by rw [block_of_add]; exact h.inK hn ad e)⟩, h.sl.nil, h.sl.cap⟩, h.inK⟩
theorem SLK.mono {K K' : Nat → Prop} {w : World} {A : Option Addr} {n c : Nat} {xs : List Int} (h : SLK K w A n c xs) (hk : ∀ b, b < w.heap.size → K b → K' b) : SLK K' w A n c xs :=
  ⟨h.sl, fun hn ad e => hk _ (by
    obtain ⟨ad', e', hl, _⟩ := h.sl.il.mem hn
    rw [e] at e'; injection e' with e'; rw [e']; exact hl) (h.inK hn ad e)⟩
theorem SL.k {w : World} {A : Option Addr} {n c : Nat} {xs : List Int} (h : SL w A n c xs) : SLK (fun b => b < w.heap.size) w A n c xs := ⟨h, fun hn ad e => h.inside hn ad e⟩
theorem QS_ok {α : Type} {Q : RdI α} (hQ : RdOk Q) (sz : Nat) : RdOk (QS Q sz) :=
  ⟨fun hk hs ⟨B, m, d, e, h⟩ => ⟨B, m, d, e, h.keep hQ hk hs⟩, fun hk ⟨B, m, d, e, h⟩ => ⟨B, m, d, e, h.mono hQ hk⟩⟩
/-- A row of integers. -/
def QL : RdI (List Int) := fun K w us xs => ∃ B m d, us = [.slice B m d] ∧ SLK K w B m d xs
theorem QL_ok : RdOk QL := ⟨fun hk hs ⟨B, m, d, e, h⟩ => ⟨B, m, d, e, h.keep hk hs⟩, fun hk ⟨B, m, d, e, h⟩ => ⟨B, m, d, e, h.mono hk⟩⟩

section
variable {α : Type} {Q : RdI α} {n c k : Nat} {K : Nat → Prop} {w : World} {A : Option Addr} {ys : List α}
theorem RdS.at1 (h : RdS Q 1 K w A n c ys) (hk : k < n) : ∃ ad v, A = some ad ∧ w.cell? (ad.add k) = some v ∧ Q K w [v] (ys[k]'(by rw [h.len]; exact hk)) := by
  obtain ⟨ad, e, _, hb, hc⟩ := h.mem (by omega)
  obtain ⟨us, h1, h0, h2, h3⟩ := hc k (by rw [h.len]; exact hk)
  match us, h1 with
  | [v], _ => exact ⟨ad, v, e, by rw [Nat.mul_one] at h0; exact h0, h3⟩
theorem RdS.at2 (h : RdS Q 2 K w A n c ys) (hk : k < n) : ∃ ad u v, A = some ad ∧ w.cell? (ad.add (k * 2)) = some u ∧ w.cell? ⟨(ad.add (k * 2)).block, (ad.add (k * 2)).off + 1, none⟩ = some v ∧ Q K w [u, v] (ys[k]'(by rw [h.len]; exact hk)) := by
  obtain ⟨ad, e, _, hb, hc⟩ := h.mem (by omega)
  obtain ⟨us, h1, h0, h2, h3⟩ := hc k (by rw [h.len]; exact hk)
  match us, h1 with
  | [u, v], _ => exact ⟨ad, u, v, e, h0, h2 1 (by omega), h3⟩
theorem RdS.inK (h : RdS Q n K w A c k ys) : 0 < c → ∀ ad, A = some ad → K ad.block ∧ ad.block < w.heap.size := fun hn ad e => by
  obtain ⟨ad', e', hl, hb, _⟩ := h.mem hn
  rw [e] at e'; injection e' with e'; subst e'; exact ⟨hb, hl⟩
end

/-! ### built by the call -/
/-- A slice of the call's own, with elements of type e and sz cells. -/
structure OwnG (e : TypeId) (sz : Nat) (w : World) (base : Nat) (A : Option Addr) (n c : Nat) (vs : List Value) : Prop where
  own : w.ownsRow base e sz (.slice A n c) n vs
  small : n ≤ 1000000
section
variable {e : TypeId} {sz base n c : Nat} {w w' : World} {A : Option Addr} {vs : List Value}
theorem OwnG.nil_ (e : TypeId) (sz : Nat) (w : World) (base : Nat) : OwnG e sz w base none 0 0 [] := ⟨World.ownsRow_nil _ _ _ _, by omega⟩
theorem OwnG.len (h : OwnG e sz w base A n c vs) : vs.length = n * sz := h.own.1
theorem OwnG.lt (h : OwnG e sz w base A n c vs) : ∀ k, (Value.slice A n c).ownBlock = some k → base ≤ k ∧ k < w.heap.size := h.own.lt
theorem OwnG.keep {K : Nat → Prop} (h : OwnG e sz w base A n c vs) (hk : SameK K w w') (hK : ∀ k, (Value.slice A n c).ownBlock = some k → K k) : OwnG e sz w' base A n c vs := by
  refine ⟨⟨h.own.1, ?_⟩, h.small⟩
  rcases h.own.2 with h2 | ⟨g, cap, cur, hv, hg, hh, r⟩
  · exact .inl h2
  · exact .inr ⟨g, cap, cur, hv, hg, (hk g (hK g (by rw [hv]; rfl))).trans hh, r⟩
theorem OwnG.below (h : OwnG e sz w base A n c vs) (hb : Below w.heap.size w w') : OwnG e sz w' base A n c vs := h.keep (SameK.below hb) fun k hk => (h.lt k hk).2
theorem OwnG.mono {b' : Nat} (h : OwnG e sz w base A n c vs) (hb : b' ≤ base) : OwnG e sz w b' A n c vs := by
  refine ⟨⟨h.own.1, ?_⟩, h.small⟩
  rcases h.own.2 with h2 | ⟨g, cap, cur, hv, hg, r⟩
  · exact .inl h2
  · exact .inr ⟨g, cap, cur, hv, by omega, r⟩
theorem OwnG.form (h : OwnG e sz w base A n c vs) (hn : 0 < n) : ∃ g, A = some ⟨g, 0, none⟩ ∧ base ≤ g ∧ g < w.heap.size := by
  rcases h.own.2 with ⟨_, h0⟩ | ⟨g, cap, cur, hv, hg, hh, _⟩
  · omega
  · simp only [Value.slice.injEq] at hv
    exact ⟨g, hv.1, hg, Blk.lt (w := w) (t := e) (cs := cur) hh⟩
theorem OwnG.cells (h : OwnG e sz w base A n c vs) : ∀ k, (Value.slice A n c).ownBlock = some k → ∃ cur : Array Value, base ≤ k ∧ w.heap[k]? = some (.cells cur e (0, 0)) := by
  intro k hk
  rcases h.own.2 with ⟨hv, _⟩ | ⟨g, cap, cur, hv, hb, hh, _⟩
  · rw [hv] at hk; cases hk
  · rw [hv] at hk
    injection hk with hk
    subst hk
    exact ⟨cur, hb, hh⟩
theorem cells_one {w : World} {g : Nat} {t : TypeId} {v : Value} (h : Blk w g t #[v]) : ∀ j u, [v][j]? = some u → w.cell? ((⟨g, 0, none⟩ : Addr).add j) = some u := by
  intro j u hu
  rcases j with _ | j
  · simp at hu
    subst hu
    have h2 := h.cell 0
    simpa [Addr.add] using h2
  · simp at hu
theorem OwnG.nilcap (h : OwnG e sz w base A n c vs) : (A = none → n = 0 ∧ c = 0) ∧ n ≤ c := by
  rcases h.own.2 with ⟨hv, h0⟩ | ⟨g, cap, cur, hv, _, _, hnc, _⟩
  · simp only [Value.slice.injEq] at hv
    exact ⟨fun _ => ⟨hv.2.1, hv.2.2⟩, by omega⟩
  · simp only [Value.slice.injEq, true_and] at hv
    exact ⟨fun e => (by rw [e] at hv; exact absurd hv.1 (by simp)), by omega⟩
theorem OwnG.cellAt {g : Nat} (h : OwnG e sz w base (some ⟨g, 0, none⟩) n c vs) {j : Nat} (hj : j < n * sz) : w.cell? ⟨g, j, none⟩ = vs[j]? := h.own.cellAt j hj
theorem OwnG.frozen {g : Nat} (h : OwnG e sz w base (some ⟨g, 0, none⟩) n c vs) (j : Nat) : w.frozen? ⟨g, j, none⟩ = false := h.own.frozenAt j
theorem OwnG.set_ {g : Nat} (h : OwnG e sz w base (some ⟨g, 0, none⟩) n c vs) (j : Nat) (u : Value) : OwnG e sz (w.setCell ⟨g, j, none⟩ u) base (some ⟨g, 0, none⟩) n c (vs.set j u) := ⟨(h.own.stored j u).1, h.small⟩
end
/-- What append leaves. -/
structure AppG (e : TypeId) (sz : Nat) (w : World) (base : Nat) (A : Option Addr) (n c : Nat) (vs : List Value) (A' : Option Addr) (c' : Nat) (w' : World) : Prop where
  own : OwnG e sz w' base A' n c' vs
  grown : w.grownBy w' (Value.slice A n c).ownBlock
  lies : (Value.slice A' n c').ownBlock = (Value.slice A n c).ownBlock ∨ (Value.slice A' n c').ownBlock = some w.heap.size
theorem wpList_append_G {P : Program} (w : World) {ops : Array Oper} {rest : List Oper} {o : Oper} {a : Act} {Q : Exit → Act → World → Prop} (hgd : o.guard = none) (s x : Operand) (t : TypeId)
    (ho : o.op = .call { callee := .builtin .append, args := #[s, x], argTypes := #[t, t] })
    (base : Nat) (e : TypeId) (i : TypeInfo) (z : Value) (sz by_ : Nat) (ht : P.underlying t = some (.slice e)) (hi : P.info? e = some i) (hz : i.zero = some z) (hsize : i.size = sz) (hby : i.bytes = by_) (hzs : z.cells.size = sz) (hs0 : 0 < sz) (hbs : by_ ≤ 10000)
    (A : Option Addr) (n c : Nat) (vs : List Value) (hs : a.eval s = .slice A n c) (hown : OwnG e sz w base A n c vs) (ad : Addr) (m d : Nat) (us : List Value) (hm : us.length = m * sz) (hx : a.eval x = .slice (some ad) m d) (hu : ∀ j u, us[j]? = some u → w.cell? (ad.add j) = some u) (h1 : ∀ u, u ∈ us → u.oneCell' = true)
    (hsm : n + m ≤ 1000000) (hbase : base ≤ w.heap.size)
    (h : ∀ A' c' w', AppG e sz w base A (n + m) c (vs ++ us) A' c' w' → wpList P ops Q rest (a.put o.dst (.slice A' (n + m) c')) w') : wpList P ops Q (o :: rest) a w :=
  wpList_plain hgd fun K hK => by
    have hb2 : (n + m) * by_ ≤ 140737488355328 := by
      have := Nat.mul_le_mul hsm hbs
      omega
    obtain ⟨v', w', hrun, h2, h3, _, h5⟩ := run_append_own_at (P := P) w base t o.type e i z sz by_ ht hi hz hsize hby hzs hs0 (.slice A n c) n _ hown.own ad m d us
      hm hu h1 (by simp only [maxLen]; omega) hb2 hbase
    have hv : ∃ A' c', v' = .slice A' (n + m) c' := by
      rcases h2.2 with ⟨rfl, h0⟩ | ⟨g, cap, cur, rfl, _⟩
      · exact ⟨none, 0, by rw [h0]⟩
      · exact ⟨_, _, rfl⟩
    obtain ⟨A', c', rfl⟩ := hv
    unfold Oper.wp execOp
    simp only [ho, resolve, invoke, builtin, Sem.run_bind, Sem.run_pure, Result.andThen_ok, List.map_toArray, List.map_cons, List.map_nil, hs, hx, hrun]
    exact hK _ _ (h A' c' w' ⟨⟨h2, hsm⟩, by rw [ownBlock_len A (n + m) n c c]; exact h3, by rw [ownBlock_len A (n + m) n c c]; exact h5⟩)

/-- A slice that the call builds: its own row of cells, and items that are read outside it. -/
structure Bld {α : Type} (L : Nat → Prop) (Q : RdI α) (e : TypeId) (sz : Nat) (w0 w : World) (A : Option Addr) (n c : Nat) (vs : List Value) (ys : List α) : Prop where
  own : OwnG e sz w w0.heap.size A n c vs
  len : ys.length = n
  row : ∀ j (hj : j < ys.length), Q (fun b => L b ∧ b < w.heap.size ∧ (Value.slice A n c).ownBlock ≠ some b) w ((vs.drop (j * sz)).take sz) ys[j]
  below : Below w0.heap.size w0 w
section
variable {α : Type} {L : Nat → Prop} {Q : RdI α} {e : TypeId} {sz n c : Nat} {w0 w w' : World} {A : Option Addr} {vs : List Value} {ys : List α}
theorem Bld.start (L : Nat → Prop) (Q : RdI α) (e : TypeId) (sz : Nat) (w0 : World) : Bld L Q e sz w0 w0 none 0 0 [] [] := ⟨OwnG.nil_ _ _ _ _, rfl, fun j hj => by simp at hj, Below.refl _ _⟩
theorem Bld.to (hQ : RdOk Q) (h : Bld L Q e sz w0 w A n c vs ys) (hb : Below w.heap.size w w') : Bld L Q e sz w0 w' A n c vs ys :=
  ⟨h.own.below hb, h.len, fun j hj => hQ.mono (fun b _ hb2 => ⟨hb2.1, Nat.lt_of_lt_of_le hb2.2.1 hb.size, hb2.2.2⟩) (hQ.keep ((SameK.below hb).mono fun b hb2 => hb2.2.1) hb.size (h.row j hj)), h.below.trans (hb.mono h.below.size)⟩
/-- One item more. -/
theorem Bld.add (hQ : RdOk Q) {A9 : Option Addr} {c9 : Nat} {w9 : World} {us : List Value} {y : α} (h : Bld L Q e sz w0 w A n c vs ys) (hl : us.length = sz)
    (hy : Q (fun b => L b ∧ b < w.heap.size ∧ (Value.slice A n c).ownBlock ≠ some b) w us y) (happ : AppG e sz w w0.heap.size A (n + 1) c (vs ++ us) A9 c9 w9) :
    Bld L Q e sz w0 w9 A9 (n + 1) c9 (vs ++ us) (ys ++ [y]) := by
  have hown : (Value.slice A (n + 1) c).ownBlock = (Value.slice A n c).ownBlock := ownBlock_len A (n + 1) n c c
  have hsame : SameK (fun b => L b ∧ b < w.heap.size ∧ (Value.slice A n c).ownBlock ≠ some b) w w9 := by
    have := SameK.grown happ.grown
    rw [hown] at this
    exact this.mono fun b hb => hb.2
  have hup : ∀ b, b < w9.heap.size → (L b ∧ b < w.heap.size ∧ (Value.slice A n c).ownBlock ≠ some b) → L b ∧ b < w9.heap.size ∧ (Value.slice A9 (n + 1) c9).ownBlock ≠ some b := fun b hb h2 => ⟨h2.1, hb, by
    rcases happ.lies with h3 | h3
    · rw [h3, hown]; exact h2.2.2
    · rw [h3]; intro e; injection e with e; omega⟩
  have hvl := h.own.len
  refine ⟨happ.own, by simp [h.len], fun j hj => ?_, h.below.grown happ.grown h.below.size (fun g hg => (h.own.lt g (by rw [← hown]; exact hg)).1)⟩
  have hj2 : j < n + 1 := by simp [h.len] at hj; exact hj
  by_cases hjn : j < n
  · have hj3 : j < ys.length := by rw [h.len]; exact hjn
    have hm : (j + 1) * sz ≤ n * sz := Nat.mul_le_mul_right _ hjn
    rw [Nat.add_mul, Nat.one_mul] at hm
    have e1 : ((vs ++ us).drop (j * sz)).take sz = (vs.drop (j * sz)).take sz := by
      rw [List.drop_append_of_le_length (by omega), List.take_append_of_le_length (by rw [List.length_drop]; omega)]
    have e2 : (ys ++ [y])[j] = ys[j] := List.getElem_append_left hj3
    rw [e1, e2]
    exact hQ.mono hup (hQ.keep hsame happ.grown.size (h.row j hj3))
  · have hjn2 : j = n := by omega
    subst hjn2
    have e1 : ((vs ++ us).drop (j * sz)).take sz = us := by
      rw [List.drop_append, show vs.drop (j * sz) = [] from List.drop_eq_nil_of_le (by omega), hvl, Nat.sub_self, List.drop_zero, List.nil_append, List.take_of_length_le (by omega)]
    have e2 : (ys ++ [y])[j] = y := by rw [List.getElem_append_right (by rw [h.len]; exact Nat.le_refl _)]; simp
    rw [e1, e2]
    exact hQ.mono hup (hQ.keep hsame happ.grown.size hy)
theorem Bld.rdK (hQ : RdOk Q) (hs0 : 0 < sz) (hL : ∀ b, w0.heap.size ≤ b → L b) (h : Bld L Q e sz w0 w A n c vs ys) : RdS Q sz (fun b => L b ∧ b < w.heap.size) w A n c ys := by
  have hvl := h.own.len
  refine ⟨h.len, by have := h.own.small; omega, h.own.nilcap.1, h.own.nilcap.2, fun hn => ?_⟩
  obtain ⟨g, rfl, hgb, hl⟩ := h.own.form hn
  refine ⟨_, rfl, hl, ⟨hL _ hgb, hl⟩, fun j hj => ⟨(vs.drop (j * sz)).take sz, ?_, ?_, ?_, hQ.mono (fun b hb h2 => ⟨h2.1, hb⟩) (h.row j hj)⟩⟩
  · have hj2 := h.len
    have hm : (j + 1) * sz ≤ n * sz := Nat.mul_le_mul_right _ (by omega)
    rw [Nat.add_mul, Nat.one_mul] at hm
    rw [List.length_take, List.length_drop]; omega
  · have hj2 := h.len
    have hm : (j + 1) * sz ≤ n * sz := Nat.mul_le_mul_right _ (by omega)
    rw [Nat.add_mul, Nat.one_mul] at hm
    rw [show (⟨g, 0, none⟩ : Addr).add (j * sz) = ⟨g, j * sz, none⟩ by unfold Addr.add; split <;> simp_all, h.own.cellAt (by omega)]
    rw [List.getElem?_take, if_pos hs0, List.getElem?_drop, Nat.add_zero]
  · intro i hi
    have hj2 := h.len
    have hm : (j + 1) * sz ≤ n * sz := Nat.mul_le_mul_right _ (by omega)
    rw [Nat.add_mul, Nat.one_mul] at hm
    rw [show (⟨g, 0, none⟩ : Addr).add (j * sz) = ⟨g, j * sz, none⟩ by unfold Addr.add; split <;> simp_all]
    show w.cell? ⟨g, j * sz + i, none⟩ = _
    rw [h.own.cellAt (by omega), List.getElem?_take, if_pos hi, List.getElem?_drop]
theorem Bld.rd (hQ : RdOk Q) (hs0 : 0 < sz) (hL : ∀ b, w0.heap.size ≤ b → L b) (h : Bld L Q e sz w0 w A n c vs ys) : Rd Q sz w A n c ys := (h.rdK hQ hs0 hL).mono hQ fun b hb _ => hb
/-- Outside a set of old blocks: everything that is read is new. -/
theorem Bld.far (h : Bld L Q e sz w0 w A n c vs ys) : 0 < n → ∀ ad, A = some ad → w0.heap.size ≤ ad.block := fun hn ad e => by
  obtain ⟨g, e2, hg, _⟩ := h.own.form hn
  rw [e] at e2; injection e2 with e2; rw [e2]; exact hg
end
end Go.Proofs.Ytldfnfhommbokaa
/- Maps of terms as values: products, sums, polynomials of them; slices of maps. -/
namespace Go.Proofs.Ytldfnfhommbokaa
set_option linter.unusedVariables false
set_option linter.unusedSimpArgs false
open Go.RowKit

/-- Block b is a map of terms that reads as x, with keys within E. -/
def TV (w : World) (b : Nat) (x : LP) (E : Nat) : Prop := ∃ T, MapI w b T ∧ LP.mk T = x ∧ ∀ p ∈ T, p.1.natAbs ≤ E
theorem TV.lt {w : World} {b : Nat} {x : LP} {E : Nat} (h : TV w b x E) : b < w.heap.size := by obtain ⟨T, h, _⟩ := h; exact h.lt
theorem TV.mono {w : World} {b : Nat} {x : LP} {E E' : Nat} (h : TV w b x E) (he : E ≤ E') : TV w b x E' := by
  obtain ⟨T, h1, h2, h3⟩ := h; exact ⟨T, h1, h2, fun p hp => Nat.le_trans (h3 p hp) he⟩
theorem TV.same {w w' : World} {b : Nat} {x : LP} {E : Nat} (h : TV w b x E) (hb : w'.heap[b]? = w.heap[b]?) : TV w' b x E := by
  obtain ⟨T, h1, h2, h3⟩ := h
  refine ⟨T, ⟨?_, h1.nodup⟩, h2, h3⟩
  obtain ⟨D, ⟨es, clock, hbl, r1⟩, r⟩ := h1.dict.own
  exact ⟨⟨D, ⟨es, clock, hb.trans hbl, r1⟩, r⟩⟩
theorem TV.below {w w' : World} {b : Nat} {x : LP} {E : Nat} (h : TV w b x E) (hb : Below w.heap.size w w') : TV w' b x E := h.same (hb.block b h.lt)
theorem TV.ne_cells {w : World} {b g : Nat} {x : LP} {E : Nat} {cs : Array Value} {t : TypeId} {fr : Nat × Nat} (h : TV w b x E) (hg : w.heap[g]? = some (.cells cs t fr)) : b ≠ g := by
  obtain ⟨T, h1, _, _⟩ := h
  obtain ⟨D, ⟨es, clock, hbl, r1⟩, r⟩ := h1.dict.own
  rintro rfl
  rw [hbl] at hg
  cases hg
/-- A new map that reads as x. -/
def GivesV (w : World) (x : LP) (E : Nat) (e : Ending) (w' : World) : Prop := ∃ b, e = .returned (.map (some b)) ∧ w.heap.size ≤ b ∧ TV w' b x E ∧ Below w.heap.size w w'
theorem GivesT.v {w : World} {x : LP} {E : Nat} {e : Ending} {w' : World} (h : GivesT w x E e w') : GivesV w x E e w' := by
  obtain ⟨b, o, h1, h2, h3, h4, h5, h6⟩ := h
  exact ⟨b, h1, h2, ⟨o, h3, h4, h5⟩, h6⟩
def CB (x : LP) (V : Nat) : Prop := ∀ k, (LP.co x k).natAbs ≤ V
theorem TV.vals {w : World} {b : Nat} {T : List Tm} (h : MapI w b T) {V : Nat} (hc : CB (LP.mk T) V) : ∀ p ∈ T, p.2.natAbs ≤ V := fun p hp => by
  have h2 := hc p.1
  rw [LP.co_mk, h.val (x := p.1) (c := p.2) hp] at h2
  exact h2
theorem tv_mul {w : World} {a b : Nat} {x y : LP} {Ea Eb Va Vb : Nat} (hx : TV w a x Ea) (hy : TV w b y Eb) (hcx : CB x Va) (hcy : CB y Vb) (hE : Ea + Eb ≤ 400000) (hV : (2 * Ea + 1) * (Va * Vb) ≤ 4000000000000000000) :
    Calls Try.prog 61 #[.map (some a), .map (some b)] w (GivesV w (x * y) (Ea + Eb)) := by
  obtain ⟨S, hs, rfl, hsk⟩ := hx
  obtain ⟨T, ht, rfl, htk⟩ := hy
  refine (tmul_any a b S T Ea Eb (Ea + Eb) Va Vb (Nat.le_refl _) hE (Nat.le_trans (Nat.mul_le_mul_right _ (nodup_leT hs.nodup hsk)) hV) w hs ht hsk htk (TV.vals hs hcx) (TV.vals ht hcy)).mono fun e w' h => h.v
theorem tv_plus {w : World} {a b : Nat} {x y : LP} {E : Nat} (hx : TV w a x E) (hy : TV w b y E) (hcx : CB x 4000000000000000000) (hcy : CB y 4000000000000000000) (hE : E ≤ 400000) :
    Calls Try.prog 60 #[.map (some a), .map (some b), .int .i64 1] w (GivesV w (x + y) E) := by
  obtain ⟨S, hs, rfl, hsk⟩ := hx
  obtain ⟨T, ht, rfl, htk⟩ := hy
  refine (plus_any a b S T 1 (.inl rfl) E hE w hs ht hsk htk (TV.vals hs hcx) (TV.vals ht hcy)).mono fun e w' h => ?_
  rw [LP.term_one, CR.one_mul] at h
  exact h.v
theorem tv_poly {w : World} {b : Nat} {x : LP} {E : Nat} (hx : TV w b x E) (hE : E ≤ 400000) : Calls Try.prog 25 #[.map (some b)] w (GivesP w (LP.canon x).1 (LP.canon x).2) := by
  obtain ⟨T, ht, rfl, htk⟩ := hx
  exact tpoly_any b T E hE w ht htk

/-- A map as an item. -/
def QT (E : Nat) : RdI LP := fun K w us x => ∃ b, us = [.map (some b)] ∧ K b ∧ TV w b x E
theorem QT_ok (E : Nat) : RdOk (QT E) := ⟨fun hk hs ⟨b, e, hb, h⟩ => ⟨b, e, hb, h.same (hk b hb)⟩, fun hk ⟨b, e, hb, h⟩ => ⟨b, e, hk b h.lt hb, h⟩⟩
/-- A polynomial as an item. -/
def QP : RdI Po := fun K w us p => ∃ B m d, us = [.int .i64 p.1, .slice B m d] ∧ SLK K w B m d p.2 ∧ (Lit.int .i64 p.1).wf = true
theorem QP_ok : RdOk QP := ⟨fun hk hs ⟨B, m, d, e, h, hw⟩ => ⟨B, m, d, e, h.keep hk hs, hw⟩, fun hk ⟨B, m, d, e, h, hw⟩ => ⟨B, m, d, e, h.mono hk, hw⟩⟩
theorem SPo.rd {w : World} {A : Option Addr} {n c : Nat} {ps : List Po} (h : SPo w A n c ps) : Rd QP 2 w A n c ps :=
  ⟨h.len, h.small, h.nil, h.cap, fun hn => by
    obtain ⟨ad, e, hl, hc⟩ := h.mem hn
    refine ⟨ad, e, hl, hl, fun j hj => ?_⟩
    obtain ⟨B, m, d, h1, h2, h3, h4⟩ := hc j (by rw [← h.len]; exact hj)
    have ed : ps.getD j (0, []) = ps[j] := by simp [List.getD, List.getElem?_eq_getElem hj]
    rw [ed] at h1 h3 h4
    have hsp : ∃ v, w.cell? ⟨(ad.add (j * 2)).block, (ad.add (j * 2)).off, none⟩ = some v ∧ v = .int .i64 ps[j].1 := by
      refine ⟨_, ?_, rfl⟩
      have e2 : w.cell? (ad.add (j * 2)) = some (.int .i64 ps[j].1) := h1
      unfold World.cell? at e2 ⊢
      show (match w.heap[(ad.add (j * 2)).block]? with | some (.cells c _ _) => if (none : Option _).isSome then none else c[(ad.add (j * 2)).off]? | _ => none) = _
      split at e2
      · next hq => rw [hq]; split at e2; · cases e2
                   · exact e2
      · cases e2
    obtain ⟨v, hv, rfl⟩ := hsp
    refine ⟨[.int .i64 ps[j].1, .slice B m d], rfl, h1, fun i hi => ?_, B, m, d, rfl, h3.k, h4⟩
    rcases Nat.lt_or_ge i 1 with hi1 | hi1
    · obtain rfl : i = 0 := by omega
      exact hv
    · obtain rfl : i = 1 := by omega
      exact h2⟩
theorem Rd.spo {w : World} {A : Option Addr} {n c : Nat} {ps : List Po} (h : Rd QP 2 w A n c ps) : SPo w A n c ps :=
  ⟨h.len, h.small, h.nil, h.cap, fun hn => by
    obtain ⟨ad, e, hl, _, hc⟩ := h.mem hn
    refine ⟨ad, e, hl, fun j hj => ?_⟩
    have hj2 : j < ps.length := by rw [h.len]; exact hj
    obtain ⟨us, h1, h0, h2, B, m, d, e3, h3, h4⟩ := hc j hj2
    have ed : ps.getD j (0, []) = ps[j] := by simp [List.getD, List.getElem?_eq_getElem hj2]
    subst e3
    rw [ed]
    exact ⟨B, m, d, h0, h2 1 (by omega), h3.sl, h4⟩⟩
theorem QPs_ok : RdOk (QS QP 2) := QS_ok QP_ok 2
theorem SPP.rd {w : World} {A : Option Addr} {n c : Nat} {pss : List (List Po)} (h : SPP w A n c pss) : Rd (QS QP 2) 1 w A n c pss :=
  ⟨h.len, h.small, h.nil, h.cap, fun hn => by
    obtain ⟨ad, e, hl, hc⟩ := h.mem hn
    refine ⟨ad, e, hl, hl, fun j hj => ?_⟩
    obtain ⟨B, m, d, h1, h2⟩ := hc j (by rw [← h.len]; exact hj)
    have ed : pss.getD j [] = pss[j] := by simp [List.getD, List.getElem?_eq_getElem hj]
    rw [ed] at h2
    refine ⟨[.slice B m d], rfl, by rw [Nat.mul_one]; exact h1, fun i hi => ?_, B, m, d, rfl, h2.rd⟩
    obtain rfl : i = 0 := by omega
    have e2 : w.cell? (ad.add (j * 1)) = some (.slice B m d) := by rw [Nat.mul_one]; exact h1
    show w.cell? ⟨(ad.add (j * 1)).block, (ad.add (j * 1)).off, none⟩ = some (.slice B m d)
    unfold World.cell? at e2 ⊢
    show (match w.heap[(ad.add (j * 1)).block]? with | some (.cells c _ _) => if (none : Option _).isSome then none else c[(ad.add (j * 1)).off]? | _ => none) = _
    split at e2
    · next hq => rw [hq]; split at e2; · cases e2
                 · exact e2
    · cases e2⟩
theorem Rd.spp {w : World} {A : Option Addr} {n c : Nat} {pss : List (List Po)} (h : Rd (QS QP 2) 1 w A n c pss) : SPP w A n c pss :=
  ⟨h.len, h.small, h.nil, h.cap, fun hn => by
    obtain ⟨ad, e, hl, _, hc⟩ := h.mem hn
    refine ⟨ad, e, hl, fun j hj => ?_⟩
    have hj2 : j < pss.length := by rw [h.len]; exact hj
    obtain ⟨us, h1, h0, h2, B, m, d, e3, h3⟩ := hc j hj2
    have ed : pss.getD j [] = pss[j] := by simp [List.getD, List.getElem?_eq_getElem hj2]
    subst e3
    rw [ed]
    rw [Nat.mul_one] at h0
    exact ⟨B, m, d, h0, Rd.spo h3⟩⟩
end Go.Proofs.Ytldfnfhommbokaa
/- Square matrices of maps that the call makes: rows made one by one, cells stored one by one. -/
namespace Go.Proofs.Ytldfnfhommbokaa
set_option linter.unusedVariables false
set_option linter.unusedSimpArgs false
open Go.RowKit

def rowV (n : Nat) : Option Nat → Value
  | some g => .slice (some ⟨g, 0, none⟩) n n
  | none => .slice none 0 0
structure MatO (base : Nat) (w : World) (go n : Nat) (gr : Nat → Option Nat) (mb : Nat → Nat → Option Nat) (X : Mtx LP) (E : Nat) : Prop where
  out : OwnG 42 1 w base (some ⟨go, 0, none⟩) n n ((List.range n).map fun i => rowV n (gr i))
  row : ∀ i, i < n → ∀ g, gr i = some g → OwnG 47 1 w base (some ⟨g, 0, none⟩) n n ((List.range n).map fun j => .map (mb i j))
  ne : ∀ i, i < n → gr i ≠ some go
  inj : ∀ i j g, i < n → j < n → gr i = some g → gr j = some g → i = j
  map : ∀ i, i < n → ∀ j, j < n → ∀ b, mb i j = some b → base ≤ b ∧ TV w b (X i j) E
section
variable {base go n E : Nat} {w w' : World} {gr : Nat → Option Nat} {mb : Nat → Nat → Option Nat} {X : Mtx LP}
theorem map_range_set {α : Type} (f : Nat → α) {n k : Nat} (v : α) : ((List.range n).map f).set k v = (List.range n).map fun i => if i = k then v else f i := by
  refine List.ext_getElem (by simp) fun i h1 h2 => ?_
  rw [List.getElem_set]
  simp only [List.getElem_map, List.getElem_range]
  by_cases h : k = i
  · rw [if_pos h, if_pos h.symm]
  · rw [if_neg h, if_neg (fun e => h e.symm)]
theorem MatO.to (h : MatO base w go n gr mb X E) (hb : Below w.heap.size w w') : MatO base w' go n gr mb X E :=
  ⟨h.out.below hb, fun i hi g hg => (h.row i hi g hg).below hb, h.ne, h.inj, fun i hi j hj b hm => ⟨(h.map i hi j hj b hm).1, (h.map i hi j hj b hm).2.below hb⟩⟩
theorem MatO.outCell {i : Nat} (h : MatO base w go n gr mb X E) (hi : i < n) : w.cell? ⟨go, i, none⟩ = some (rowV n (gr i)) := by
  rw [h.out.cellAt (by omega)]
  simp [hi]
theorem MatO.rowCell {i j g : Nat} (h : MatO base w go n gr mb X E) (hi : i < n) (hj : j < n) (hg : gr i = some g) : w.cell? ⟨g, j, none⟩ = some (.map (mb i j)) := by
  rw [(h.row i hi g hg).cellAt (by omega)]
  simp [hj]
theorem MatO.rowFrozen {i j g : Nat} (h : MatO base w go n gr mb X E) (hi : i < n) (hg : gr i = some g) : w.frozen? ⟨g, j, none⟩ = false := (h.row i hi g hg).frozen j
theorem MatO.rowLt {i g : Nat} (h : MatO base w go n gr mb X E) (hi : i < n) (hg : gr i = some g) : base ≤ g ∧ g < w.heap.size := (h.row i hi g hg).lt g rfl
/-- A cell of a row is written. -/
theorem MatO.set_ {i j g b : Nat} {x : LP} (h : MatO base w go n gr mb X E) (hi : i < n) (hj : j < n) (hg : gr i = some g) (hb : base ≤ b) (hx : TV w b x E) :
    MatO base (w.setCell ⟨g, j, none⟩ (.map (some b))) go n gr (fun a c => if a = i ∧ c = j then some b else mb a c) (fun a c => if a = i ∧ c = j then x else X a c) E := by
  have hrow := h.row i hi g hg
  obtain ⟨cur, _, hcur⟩ := hrow.cells g rfl
  have hsame : SameK (fun k => k ≠ g) w (w.setCell ⟨g, j, none⟩ (.map (some b))) := fun k hk => Below.heap_setCell w ⟨g, j, none⟩ _ k hk
  refine ⟨h.out.keep hsame fun k hk => ?_, fun i' hi' g' hg' => ?_, h.ne, h.inj, fun i' hi' j' hj' b' hb' => ?_⟩
  · have : k = go := by simpa [Value.ownBlock] using hk.symm
    subst this
    intro e; exact h.ne i hi (by rw [hg, e])
  · by_cases e : i' = i
    · subst e
      rw [hg] at hg'
      injection hg' with hg'
      subst hg'
      have h2 := hrow.set_ j (.map (some b))
      rw [map_range_set] at h2
      have e2 : (List.range n).map (fun c => if c = j then Value.map (some b) else .map (mb i' c)) = (List.range n).map fun c => .map (if i' = i' ∧ c = j then some b else mb i' c) := List.map_congr_left fun c _ => by
        by_cases hc : c = j
        · rw [if_pos hc, if_pos ⟨rfl, hc⟩]
        · rw [if_neg hc, if_neg (fun h => hc h.2)]
      rw [e2] at h2
      exact h2
    · have h2 := (h.row i' hi' g' hg').keep hsame fun k hk => by
        have : k = g' := by simpa [Value.ownBlock] using hk.symm
        subst this
        intro e3; subst e3; exact e (h.inj i' i k hi' hi hg' hg)
      have e2 : (List.range n).map (fun c => Value.map (mb i' c)) = (List.range n).map fun c => .map (if i' = i ∧ c = j then some b else mb i' c) := List.map_congr_left fun c _ => by
        rw [if_neg (fun h => e h.1)]
      rw [e2] at h2
      exact h2
  · by_cases e : i' = i ∧ j' = j
    · rw [if_pos e] at hb' ⊢
      injection hb' with hb'
      subst hb'
      exact ⟨hb, hx.same (hsame b (hx.ne_cells hcur))⟩
    · rw [if_neg e] at hb' ⊢
      have h2 := h.map i' hi' j' hj' b' hb'
      exact ⟨h2.1, h2.2.same (hsame b' (h2.2.ne_cells hcur))⟩
/-- A row that has just been made is stored. -/
theorem MatO.row_ {i g : Nat} (h : MatO base w go n gr mb X E) (hi : i < n) (hw : w.grownBy w' none) (hg : w.heap.size ≤ g) (hr : OwnG 47 1 w' base (some ⟨g, 0, none⟩) n n ((List.range n).map fun _ => .map none)) :
    MatO base (w'.setCell ⟨go, i, none⟩ (rowV n (some g))) go n (fun a => if a = i then some g else gr a) (fun a c => if a = i then none else mb a c) X E := by
  have hb : Below w.heap.size w w' := (Below.refl _ _).grown hw (Nat.le_refl _) (by intro k hk; cases hk)
  have h' := h.to hb
  obtain ⟨cur, _, hcur⟩ := h'.out.cells go rfl
  have hsame : SameK (fun k => k ≠ go) w' (w'.setCell ⟨go, i, none⟩ (rowV n (some g))) := fun k hk => Below.heap_setCell w' ⟨go, i, none⟩ _ k hk
  have hgo : go < w.heap.size := (h.out.lt go rfl).2
  have hlt : ∀ a, a < n → ∀ k, gr a = some k → k < w.heap.size := fun a ha k hk => ((h.row a ha k hk).lt k rfl).2
  refine ⟨?_, fun i' hi' g' hg' => ?_, fun i' hi' => ?_, fun a c k ha hc hka hkc => ?_, fun i' hi' j' hj' b' hb' => ?_⟩
  · have h2 := h'.out.set_ i (rowV n (some g))
    rw [map_range_set] at h2
    have e2 : (List.range n).map (fun a => if a = i then rowV n (some g) else rowV n (gr a)) = (List.range n).map fun a => rowV n (if a = i then some g else gr a) := List.map_congr_left fun a _ => by split <;> rfl
    rw [e2] at h2
    exact h2
  · by_cases e : i' = i
    · rw [if_pos e] at hg'
      injection hg' with hg'
      subst hg'
      have h2 := hr.keep hsame fun k hk => by
        have : k = g := by simpa [Value.ownBlock] using hk.symm
        subst this
        intro e3; omega
      simp only [if_pos e]
      exact h2
    · rw [if_neg e] at hg'
      have h2 := (h'.row i' hi' g' hg').keep hsame fun k hk => by
        have : k = g' := by simpa [Value.ownBlock] using hk.symm
        subst this
        intro e3; subst e3; exact h.ne i' hi' hg'
      simp only [if_neg e]
      exact h2
  · by_cases e : i' = i
    · rw [if_pos e]; intro e2; injection e2 with e2; omega
    · rw [if_neg e]; exact h.ne i' hi'
  · by_cases ea : a = i
    · rw [if_pos ea] at hka
      injection hka with hka
      by_cases ec : c = i
      · omega
      · rw [if_neg ec] at hkc
        have := hlt c hc k hkc
        omega
    · rw [if_neg ea] at hka
      by_cases ec : c = i
      · rw [if_pos ec] at hkc
        injection hkc with hkc
        have := hlt a ha k hka
        omega
      · rw [if_neg ec] at hkc
        exact h.inj a c k ha hc hka hkc
  · by_cases e : i' = i
    · simp only [if_pos e] at hb'; cases hb'
    · simp only [if_neg e] at hb'
      have h2 := h'.map i' hi' j' hj' b' hb'
      exact ⟨h2.1, h2.2.same (hsame b' (h2.2.ne_cells hcur))⟩
theorem MatO.congr {gr' : Nat → Option Nat} {mb' : Nat → Nat → Option Nat} {X' : Mtx LP} (h : MatO base w go n gr mb X E) (h1 : ∀ i, i < n → gr i = gr' i) (h2 : ∀ i, i < n → ∀ j, j < n → mb i j = mb' i j) (h3 : ∀ i, i < n → ∀ j, j < n → ∀ b, mb i j = some b → X i j = X' i j) : MatO base w go n gr' mb' X' E := by
  have e1 : (List.range n).map (fun i => rowV n (gr i)) = (List.range n).map fun i => rowV n (gr' i) := List.map_congr_left fun i hi => by rw [h1 i (List.mem_range.1 hi)]
  refine ⟨by rw [← e1]; exact h.out, fun i hi g hg => ?_, fun i hi => by rw [← h1 i hi]; exact h.ne i hi, fun i j g hi hj hg1 hg2 => h.inj i j g hi hj (by rw [h1 i hi]; exact hg1) (by rw [h1 j hj]; exact hg2), fun i hi j hj b hb => ?_⟩
  · have e2 : (List.range n).map (fun j => Value.map (mb i j)) = (List.range n).map fun j => .map (mb' i j) := List.map_congr_left fun j hj => by rw [h2 i hi j (List.mem_range.1 hj)]
    rw [← e2]
    exact h.row i hi g (by rw [h1 i hi]; exact hg)
  · have hb2 := hb
    rw [← h2 i hi j hj] at hb2
    rw [← h3 i hi j hj b hb2]
    exact h.map i hi j hj b hb2
theorem MatO.mono {E' : Nat} (h : MatO base w go n gr mb X E) (he : E ≤ E') : MatO base w go n gr mb X E' := ⟨h.out, h.row, h.ne, h.inj, fun i hi j hj b hb => ⟨(h.map i hi j hj b hb).1, (h.map i hi j hj b hb).2.mono he⟩⟩
/-- The rows as lists. -/
def tabP (n : Nat) (X : Mtx LP) : List (List LP) := (List.range n).map fun i => (List.range n).map fun j => X i j
theorem tabP_get (n : Nat) (X : Mtx LP) {i j : Nat} (hi : i < n) (hj : j < n) : ((tabP n X).getD i []).getD j 0 = X i j := by
  unfold tabP
  simp [List.getD, hi, hj]
theorem tabP_congr {n : Nat} {X Y : Mtx LP} (h : EqM n X Y) : tabP n X = tabP n Y := by
  unfold tabP
  exact List.map_congr_left fun i hi => List.map_congr_left fun j hj => h i (List.mem_range.1 hi) j (List.mem_range.1 hj)
/-- All is made: it reads as the matrix. -/
theorem MatO.rdK (h : MatO base w go n gr mb X E) (hgr : ∀ i, i < n → ∃ g, gr i = some g) (hmb : ∀ i, i < n → ∀ j, j < n → ∃ b, mb i j = some b) : RdS (QS (QT E) 1) 1 (fun b => base ≤ b ∧ b < w.heap.size) w (some ⟨go, 0, none⟩) n n (tabP n X) := by
  have hl := h.out.small
  refine ⟨by simp [tabP], by omega, fun e => (by cases e), Nat.le_refl _, fun hn => ⟨_, rfl, (h.out.lt go rfl).2, h.out.lt go rfl, fun i hi => ?_⟩⟩
  have hi2 : i < n := by simpa [tabP] using hi
  obtain ⟨g, hg⟩ := hgr i hi2
  have hrow := h.row i hi2 g hg
  have hc : w.cell? ⟨go, i, none⟩ = some (.slice (some ⟨g, 0, none⟩) n n) := by
    rw [h.out.cellAt (by omega)]
    simp [hi2, hg, rowV]
  refine ⟨[.slice (some ⟨g, 0, none⟩) n n], rfl, ?_, fun k hk => ?_, some ⟨g, 0, none⟩, n, n, rfl, ?_⟩
  · rw [show (⟨go, 0, none⟩ : Addr).add (i * 1) = ⟨go, i, none⟩ by unfold Addr.add; split <;> simp_all]; exact hc
  · obtain rfl : k = 0 := by omega
    rw [show (⟨go, 0, none⟩ : Addr).add (i * 1) = ⟨go, i, none⟩ by unfold Addr.add; split <;> simp_all]; exact hc
  · have et : (tabP n X)[i] = (List.range n).map fun j => X i j := by simp only [tabP, List.getElem_map, List.getElem_range]
    rw [et]
    refine ⟨by simp, by omega, fun e => (by cases e), Nat.le_refl _, fun _ => ⟨_, rfl, (hrow.lt g rfl).2, hrow.lt g rfl, fun j hj => ?_⟩⟩
    have hj2 : j < n := by simpa using hj
    obtain ⟨b, hb⟩ := hmb i hi2 j hj2
    have hm := h.map i hi2 j hj2 b hb
    have hc2 : w.cell? ⟨g, j, none⟩ = some (.map (some b)) := by
      rw [hrow.cellAt (by omega)]
      simp [hj2, hb]
    refine ⟨[.map (some b)], rfl, ?_, fun k hk => ?_, b, rfl, ⟨hm.1, hm.2.lt⟩, by simpa using hm.2⟩
    · rw [show (⟨g, 0, none⟩ : Addr).add (j * 1) = ⟨g, j, none⟩ by unfold Addr.add; split <;> simp_all]; exact hc2
    · obtain rfl : k = 0 := by omega
      rw [show (⟨g, 0, none⟩ : Addr).add (j * 1) = ⟨g, j, none⟩ by unfold Addr.add; split <;> simp_all]; exact hc2
end
/-- A new matrix of maps, with rows of its own. -/
def GivesMO (w : World) (n : Nat) (X : Mtx LP) (E : Nat) (e : Ending) (w' : World) : Prop :=
  ∃ go gr mb, e = .returned (.slice (some ⟨go, 0, none⟩) n n) ∧ MatO w.heap.size w' go n gr mb X E ∧ (∀ i, i < n → ∃ g, gr i = some g) ∧ (∀ i, i < n → ∀ j, j < n → ∃ b, mb i j = some b) ∧ Below w.heap.size w w'
end Go.Proofs.Ytldfnfhommbokaa
