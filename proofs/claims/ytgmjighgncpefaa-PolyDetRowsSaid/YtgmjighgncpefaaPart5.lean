/- Several texts of the walk in one. -/
import Derived.Test.YtgmjighgncpefaaPart1
import Derived.Test.YtgmjighgncpefaaPart4
import Derived.Test.YtgmjighgncpefaaBase
/- Reading slices of anything within a set of blocks; slices that the call builds item by item. -/
namespace Go.Proofs.Ytgmjighgncpefaa
set_option linter.unusedVariables false
set_option linter.unusedSimpArgs false
open Go.RowKit

/-- The blocks of K are as they were. -/
def SameK (K : Nat → Prop) (w w' : World) : Prop := ∀ b, K b → w'.heap[b]? = w.heap[b]?
theorem SameK.cell {K : Nat → Prop} {w w' : World} (h : SameK K w w') {a : Addr} (ha : K a.block) : w'.cell? a = w.cell? a := World.cell?_of_block (w := w) (h a.block ha)
theorem SameK.below {B : Nat} {w w' : World} (h : Below B w w') : SameK (fun b => b < B) w w' := fun b hb => h.block b hb
theorem SameK.grown {w w' : World} {row : Option Nat} (h : w.grownBy w' row) : SameK (fun b => b < w.heap.size ∧ row ≠ some b) w w' := fun b hb => h.block b hb.1 (fun e => hb.2 e.symm)
theorem SameK.mono {K K' : Nat → Prop} {w w' : World} (h : SameK K w w') (hk : ∀ b, K' b → K b) : SameK K' w w' := fun b hb => h b (hk b hb)
theorem cell_lt {w : World} {a : Addr} {v : Value} (h : w.cell? a = some v) : a.block < w.heap.size := by
  rcases Nat.lt_or_ge a.block w.heap.size with h1 | h1
  · exact h1
  · unfold World.cell? at h
    rw [show w.heap[a.block]? = none by simpa using h1] at h
    cases h

/-- A reading of an item out of its cells: it looks at blocks of K alone. -/
abbrev RdI (α : Type) := (Nat → Prop) → World → List Value → α → Prop
structure RdOk {α : Type} (Q : RdI α) : Prop where
  keep : ∀ {K : Nat → Prop} {w w' : World} {us : List Value} {y : α}, SameK K w w' → w.heap.size ≤ w'.heap.size → Q K w us y → Q K w' us y
  mono : ∀ {K K' : Nat → Prop} {w : World} {us : List Value} {y : α}, (∀ b, b < w.heap.size → K b → K' b) → Q K w us y → Q K' w us y

/-- A slice that reads as ys; each item takes sz cells. -/
structure RdS {α : Type} (Q : RdI α) (sz : Nat) (K : Nat → Prop) (w : World) (A : Option Addr) (n c : Nat) (ys : List α) : Prop where
  len : ys.length = n
  small : n ≤ 17592186044416
  nil : A = none → n = 0 ∧ c = 0
  cap : n ≤ c
  mem : 0 < n → ∃ ad, A = some ad ∧ ad.block < w.heap.size ∧ K ad.block ∧ ∀ j (hj : j < ys.length), ∃ us : List Value, us.length = sz ∧ w.cell? (ad.add (j * sz)) = us[0]? ∧ (∀ i, i < sz → w.cell? ⟨(ad.add (j * sz)).block, (ad.add (j * sz)).off + i, none⟩ = us[i]?) ∧ Q K w us ys[j]
section
variable {α : Type} {Q : RdI α} {sz n c : Nat} {K K' : Nat → Prop} {w w' : World} {A : Option Addr} {ys : List α}
theorem RdS.keep (hQ : RdOk Q) (h : RdS Q sz K w A n c ys) (hk : SameK K w w') (hs : w.heap.size ≤ w'.heap.size) : RdS Q sz K w' A n c ys :=
  ⟨h.len, h.small, h.nil, h.cap, fun hn => by
    obtain ⟨ad, e, hl, hb, hc⟩ := h.mem hn
    refine ⟨ad, e, Nat.lt_of_lt_of_le hl hs, hb, fun j hj => ?_⟩
    obtain ⟨us, h1, h0, h2, h3⟩ := hc j hj
    exact ⟨us, h1, (hk.cell (by rw [block_of_add]; exact hb)).trans h0, fun i hi => (hk.cell (by show K (ad.add (j * sz)).block; rw [block_of_add]; exact hb)).trans (h2 i hi), hQ.keep hk hs h3⟩⟩
theorem RdS.mono (hQ : RdOk Q) (h : RdS Q sz K w A n c ys) (hk : ∀ b, b < w.heap.size → K b → K' b) : RdS Q sz K' w A n c ys :=
  ⟨h.len, h.small, h.nil, h.cap, fun hn => by
    obtain ⟨ad, e, hl, hb, hc⟩ := h.mem hn
    refine ⟨ad, e, hl, hk _ hl hb, fun j hj => ?_⟩
    obtain ⟨us, h1, h0, h2, h3⟩ := hc j hj
    exact ⟨us, h1, h0, h2, hQ.mono hk h3⟩⟩
theorem RdS.nil_ (Q : RdI α) (sz : Nat) (K : Nat → Prop) (w : World) : RdS Q sz K w none 0 0 [] := ⟨rfl, by omega, fun _ => ⟨rfl, rfl⟩, Nat.le_refl _, fun h => absurd h (by omega)⟩
end
/-- A slice of slices. -/
def QS {α : Type} (Q : RdI α) (sz : Nat) : RdI (List α) := fun K w us ys => ∃ B m d, us = [.slice B m d] ∧ RdS Q sz K w B m d ys
/-- A slice as it stands in the world: all that it reads is there. -/
abbrev Rd {α : Type} (Q : RdI α) (sz : Nat) (w : World) (A : Option Addr) (n c : Nat) (ys : List α) : Prop := RdS Q sz (fun b => b < w.heap.size) w A n c ys
theorem Rd.below {α : Type} {Q : RdI α} {sz n c : Nat} {w w' : World} {A : Option Addr} {ys : List α} (hQ : RdOk Q) (h : Rd Q sz w A n c ys) (hb : Below w.heap.size w w') : Rd Q sz w' A n c ys :=
  (h.keep hQ (SameK.below hb) hb.size).mono hQ fun b _ hl => Nat.lt_of_lt_of_le hl hb.size

/-- Integers. -/
def QI : RdI Int := fun K w us y => us = [.int .i64 y]
theorem QI_ok : RdOk QI := ⟨fun _ _ h => h, fun _ h => h⟩

structure SLK (K : Nat → Prop) (w : World) (A : Option Addr) (n c : Nat) (xs : List Int) : Prop where
  sl : SL w A n c xs
  inK : 0 < n → ∀ ad, A = some ad → K ad.block
theorem SLK.keep {K : Nat → Prop} {w w' : World} {A : Option Addr} {n c : Nat} {xs : List Int} (h : SLK K w A n c xs) (hk : SameK K w w') (hs : w.heap.size ≤ w'.heap.size) : SLK K w' A n c xs :=
  ⟨⟨⟨h.sl.il.len, h.sl.il.small, fun hn => by
    obtain ⟨ad, e, hl, hc⟩ := h.sl.il.mem hn
    refine ⟨ad, e, Nat.lt_of_lt_of_le hl hs, fun j hj => ?_⟩
    rw [← hc j hj]
    exact hk.cell (by rw [block_of_add]; exact h.inK hn ad e)⟩, h.sl.nil, h.sl.cap⟩, h.inK⟩
theorem SLK.mono {K K' : Nat → Prop} {w : World} {A : Option Addr} {n c : Nat} {xs : List Int} (h : SLK K w A n c xs) (hk : ∀ b, b < w.heap.size → K b → K' b) : SLK K' w A n c xs :=
  ⟨h.sl, fun hn ad e => hk _ (by
    obtain ⟨ad', e', hl, _⟩ := h.sl.il.mem hn
    rw [e] at e'; injection e' with e'; rw [e']; exact hl) (h.inK hn ad e)⟩
theorem SL.k {w : World} {A : Option Addr} {n c : Nat} {xs : List Int} (h : SL w A n c xs) : SLK (fun b => b < w.heap.size) w A n c xs := ⟨h, fun hn ad e => h.inside hn ad e⟩
theorem QS_ok {α : Type} {Q : RdI α} (hQ : RdOk Q) (sz : Nat) : RdOk (QS Q sz) :=
  ⟨fun hk hs ⟨B, m, d, e, h⟩ => ⟨B, m, d, e, h.keep hQ hk hs⟩, fun hk ⟨B, m, d, e, h⟩ => ⟨B, m, d, e, h.mono hQ hk⟩⟩
/-- A row of integers. -/
def QL : RdI (List Int) := fun K w us xs => ∃ B m d, us = [.slice B m d] ∧ SLK K w B m d xs
theorem QL_ok : RdOk QL := ⟨fun hk hs ⟨B, m, d, e, h⟩ => ⟨B, m, d, e, h.keep hk hs⟩, fun hk ⟨B, m, d, e, h⟩ => ⟨B, m, d, e, h.mono hk⟩⟩

section
variable {α : Type} {Q : RdI α} {n c k : Nat} {K : Nat → Prop} {w : World} {A : Option Addr} {ys : List α}
theorem RdS.at1 (h : RdS Q 1 K w A n c ys) (hk : k < n) : ∃ ad v, A = some ad ∧ w.cell? (ad.add k) = some v ∧ Q K w [v] (ys[k]'(by rw [h.len]; exact hk)) := by
  obtain ⟨ad, e, _, hb, hc⟩ := h.mem (by omega)
  obtain ⟨us, h1, h0, h2, h3⟩ := hc k (by rw [h.len]; exact hk)
  match us, h1 with
  | [v], _ => exact ⟨ad, v, e, by rw [Nat.mul_one] at h0; exact h0, h3⟩
theorem RdS.at2 (h : RdS Q 2 K w A n c ys) (hk : k < n) : ∃ ad u v, A = some ad ∧ w.cell? (ad.add (k * 2)) = some u ∧ w.cell? ⟨(ad.add (k * 2)).block, (ad.add (k * 2)).off + 1, none⟩ = some v ∧ Q K w [u, v] (ys[k]'(by rw [h.len]; exact hk)) := by
  obtain ⟨ad, e, _, hb, hc⟩ := h.mem (by omega)
  obtain ⟨us, h1, h0, h2, h3⟩ := hc k (by rw [h.len]; exact hk)
  match us, h1 with
  | [u, v], _ => exact ⟨ad, u, v, e, h0, h2 1 (by omega), h3⟩
theorem RdS.inK (h : RdS Q n K w A c k ys) : 0 < c → ∀ ad, A = some ad → K ad.block ∧ ad.block < w.heap.size := fun hn ad e => by
  obtain ⟨ad', e', hl, hb, _⟩ := h.mem hn
  rw [e] at e'; injection e' with e'; subst e'; exact ⟨hb, hl⟩
end

/-! ### built by the call -/
/-- A slice of the call's own, with elements of type e and sz cells. -/
structure OwnG (e : TypeId) (sz : Nat) (w : World) (base : Nat) (A : Option Addr) (n c : Nat) (vs : List Value) : Prop where
  own : w.ownsRow base e sz (.slice A n c) n vs
  small : n ≤ 1000000
section
variable {e : TypeId} {sz base n c : Nat} {w w' : World} {A : Option Addr} {vs : List Value}
theorem OwnG.nil_ (e : TypeId) (sz : Nat) (w : World) (base : Nat) : OwnG e sz w base none 0 0 [] := ⟨World.ownsRow_nil _ _ _ _, by omega⟩
theorem OwnG.len (h : OwnG e sz w base A n c vs) : vs.length = n * sz := h.own.1
theorem OwnG.lt (h : OwnG e sz w base A n c vs) : ∀ k, (Value.slice A n c).ownBlock = some k → base ≤ k ∧ k < w.heap.size := h.own.lt
theorem OwnG.keep {K : Nat → Prop} (h : OwnG e sz w base A n c vs) (hk : SameK K w w') (hK : ∀ k, (Value.slice A n c).ownBlock = some k → K k) : OwnG e sz w' base A n c vs := by
  refine ⟨⟨h.own.1, ?_⟩, h.small⟩
  rcases h.own.2 with h2 | ⟨g, cap, cur, hv, hg, hh, r⟩
  · exact .inl h2
  · exact .inr ⟨g, cap, cur, hv, hg, (hk g (hK g (by rw [hv]; rfl))).trans hh, r⟩
theorem OwnG.below (h : OwnG e sz w base A n c vs) (hb : Below w.heap.size w w') : OwnG e sz w' base A n c vs := h.keep (SameK.below hb) fun k hk => (h.lt k hk).2
theorem OwnG.mono {b' : Nat} (h : OwnG e sz w base A n c vs) (hb : b' ≤ base) : OwnG e sz w b' A n c vs := by
  refine ⟨⟨h.own.1, ?_⟩, h.small⟩
  rcases h.own.2 with h2 | ⟨g, cap, cur, hv, hg, r⟩
  · exact .inl h2
  · exact .inr ⟨g, cap, cur, hv, by omega, r⟩
theorem OwnG.form (h : OwnG e sz w base A n c vs) (hn : 0 < n) : ∃ g, A = some ⟨g, 0, none⟩ ∧ base ≤ g ∧ g < w.heap.size := by
  rcases h.own.2 with ⟨_, h0⟩ | ⟨g, cap, cur, hv, hg, hh, _⟩
  · omega
  · simp only [Value.slice.injEq] at hv
    exact ⟨g, hv.1, hg, Blk.lt (w := w) (t := e) (cs := cur) hh⟩
theorem OwnG.cells (h : OwnG e sz w base A n c vs) : ∀ k, (Value.slice A n c).ownBlock = some k → ∃ cur : Array Value, base ≤ k ∧ w.heap[k]? = some (.cells cur e (0, 0)) := by
  intro k hk
  rcases h.own.2 with ⟨hv, _⟩ | ⟨g, cap, cur, hv, hb, hh, _⟩
  · rw [hv] at hk; cases hk
  · rw [hv] at hk
    injection hk with hk
    subst hk
    exact ⟨cur, hb, hh⟩
theorem cells_one {w : World} {g : Nat} {t : TypeId} {v : Value} (h : Blk w g t #[v]) : ∀ j u, [v][j]? = some u → w.cell? ((⟨g, 0, none⟩ : Addr).add j) = some u := by
  intro j u hu
  rcases j with _ | j
  · simp at hu
    subst hu
    have h2 := h.cell 0
    simpa [Addr.add] using h2
  · simp at hu
theorem OwnG.nilcap (h : OwnG e sz w base A n c vs) : (A = none → n = 0 ∧ c = 0) ∧ n ≤ c := by
  rcases h.own.2 with ⟨hv, h0⟩ | ⟨g, cap, cur, hv, _, _, hnc, _⟩
  · simp only [Value.slice.injEq] at hv
    exact ⟨fun _ => ⟨hv.2.1, hv.2.2⟩, by omega⟩
  · simp only [Value.slice.injEq, true_and] at hv
    exact ⟨fun e => (by rw [e] at hv; exact absurd hv.1 (by simp)), by omega⟩
theorem OwnG.cellAt {g : Nat} (h : OwnG e sz w base (some ⟨g, 0, none⟩) n c vs) {j : Nat} (hj : j < n * sz) : w.cell? ⟨g, j, none⟩ = vs[j]? := h.own.cellAt j hj
theorem OwnG.frozen {g : Nat} (h : OwnG e sz w base (some ⟨g, 0, none⟩) n c vs) (j : Nat) : w.frozen? ⟨g, j, none⟩ = false := h.own.frozenAt j
theorem OwnG.set_ {g : Nat} (h : OwnG e sz w base (some ⟨g, 0, none⟩) n c vs) (j : Nat) (u : Value) : OwnG e sz (w.setCell ⟨g, j, none⟩ u) base (some ⟨g, 0, none⟩) n c (vs.set j u) := ⟨(h.own.stored j u).1, h.small⟩
end
/-- What append leaves. -/
structure AppG (e : TypeId) (sz : Nat) (w : World) (base : Nat) (A : Option Addr) (n c : Nat) (vs : List Value) (A' : Option Addr) (c' : Nat) (w' : World) : Prop where
  own : OwnG e sz w' base A' n c' vs
  grown : w.grownBy w' (Value.slice A n c).ownBlock
  lies : (Value.slice A' n c').ownBlock = (Value.slice A n c).ownBlock ∨ (Value.slice A' n c').ownBlock = some w.heap.size
theorem wpList_append_G {P : Program} (w : World) {ops : Array Oper} {rest : List Oper} {o : Oper} {a : Act} {Q : Exit → Act → World → Prop} (hgd : o.guard = none) (s x : Operand) (t : TypeId)
    (ho : o.op = .call { callee := .builtin .append, args := #[s, x], argTypes := #[t, t] })
    (base : Nat) (e : TypeId) (i : TypeInfo) (z : Value) (sz by_ : Nat) (ht : P.underlying t = some (.slice e)) (hi : P.info? e = some i) (hz : i.zero = some z) (hsize : i.size = sz) (hby : i.bytes = by_) (hzs : z.cells.size = sz) (hs0 : 0 < sz) (hbs : by_ ≤ 10000)
    (A : Option Addr) (n c : Nat) (vs : List Value) (hs : a.eval s = .slice A n c) (hown : OwnG e sz w base A n c vs) (ad : Addr) (m d : Nat) (us : List Value) (hm : us.length = m * sz) (hx : a.eval x = .slice (some ad) m d) (hu : ∀ j u, us[j]? = some u → w.cell? (ad.add j) = some u) (h1 : ∀ u, u ∈ us → u.oneCell' = true)
    (hsm : n + m ≤ 1000000) (hbase : base ≤ w.heap.size)
    (h : ∀ A' c' w', AppG e sz w base A (n + m) c (vs ++ us) A' c' w' → wpList P ops Q rest (a.put o.dst (.slice A' (n + m) c')) w') : wpList P ops Q (o :: rest) a w :=
  wpList_plain hgd fun K hK => by
    have hb2 : (n + m) * by_ ≤ 140737488355328 := by
      have := Nat.mul_le_mul hsm hbs
      omega
    obtain ⟨v', w', hrun, h2, h3, _, h5⟩ := run_append_own_at (P := P) w base t o.type e i z sz by_ ht hi hz hsize hby hzs hs0 (.slice A n c) n _ hown.own ad m d us
      hm hu h1 (by simp only [maxLen]; omega) hb2 hbase
    have hv : ∃ A' c', v' = .slice A' (n + m) c' := by
      rcases h2.2 with ⟨rfl, h0⟩ | ⟨g, cap, cur, rfl, _⟩
      · exact ⟨none, 0, by rw [h0]⟩
      · exact ⟨_, _, rfl⟩
    obtain ⟨A', c', rfl⟩ := hv
    unfold Oper.wp execOp
    simp only [ho, resolve, invoke, builtin, Sem.run_bind, Sem.run_pure, Result.andThen_ok, List.map_toArray, List.map_cons, List.map_nil, hs, hx, hrun]
    exact hK _ _ (h A' c' w' ⟨⟨h2, hsm⟩, by rw [ownBlock_len A (n + m) n c c]; exact h3, by rw [ownBlock_len A (n + m) n c c]; exact h5⟩)

/-- A slice that the call builds: its own row of cells, and items that are read outside it. -/
structure Bld {α : Type} (L : Nat → Prop) (Q : RdI α) (e : TypeId) (sz : Nat) (w0 w : World) (A : Option Addr) (n c : Nat) (vs : List Value) (ys : List α) : Prop where
  own : OwnG e sz w w0.heap.size A n c vs
  len : ys.length = n
  row : ∀ j (hj : j < ys.length), Q (fun b => L b ∧ b < w.heap.size ∧ (Value.slice A n c).ownBlock ≠ some b) w ((vs.drop (j * sz)).take sz) ys[j]
  below : Below w0.heap.size w0 w
section
variable {α : Type} {L : Nat → Prop} {Q : RdI α} {e : TypeId} {sz n c : Nat} {w0 w w' : World} {A : Option Addr} {vs : List Value} {ys : List α}
theorem Bld.start (L : Nat → Prop) (Q : RdI α) (e : TypeId) (sz : Nat) (w0 : World) : Bld L Q e sz w0 w0 none 0 0 [] [] := ⟨OwnG.nil_ _ _ _ _, rfl, fun j hj => by simp at hj, Below.refl _ _⟩
theorem Bld.to (hQ : RdOk Q) (h : Bld L Q e sz w0 w A n c vs ys) (hb : Below w.heap.size w w') : Bld L Q e sz w0 w' A n c vs ys :=
  ⟨h.own.below hb, h.len, fun j hj => hQ.mono (fun b _ hb2 => ⟨hb2.1, Nat.lt_of_lt_of_le hb2.2.1 hb.size, hb2.2.2⟩) (hQ.keep ((SameK.below hb).mono fun b hb2 => hb2.2.1) hb.size (h.row j hj)), h.below.trans (hb.mono h.below.size)⟩
/-- One item more. -/
theorem Bld.add (hQ : RdOk Q) {A9 : Option Addr} {c9 : Nat} {w9 : World} {us : List Value} {y : α} (h : Bld L Q e sz w0 w A n c vs ys) (hl : us.length = sz)
    (hy : Q (fun b => L b ∧ b < w.heap.size ∧ (Value.slice A n c).ownBlock ≠ some b) w us y) (happ : AppG e sz w w0.heap.size A (n + 1) c (vs ++ us) A9 c9 w9) :
    Bld L Q e sz w0 w9 A9 (n + 1) c9 (vs ++ us) (ys ++ [y]) := by
  have hown : (Value.slice A (n + 1) c).ownBlock = (Value.slice A n c).ownBlock := ownBlock_len A (n + 1) n c c
  have hsame : SameK (fun b => L b ∧ b < w.heap.size ∧ (Value.slice A n c).ownBlock ≠ some b) w w9 := by
    have := SameK.grown happ.grown
    rw [hown] at this
    exact this.mono fun b hb => hb.2
  have hup : ∀ b, b < w9.heap.size → (L b ∧ b < w.heap.size ∧ (Value.slice A n c).ownBlock ≠ some b) → L b ∧ b < w9.heap.size ∧ (Value.slice A9 (n + 1) c9).ownBlock ≠ some b := fun b hb h2 => ⟨h2.1, hb, by
    rcases happ.lies with h3 | h3
    · rw [h3, hown]; exact h2.2.2
    · rw [h3]; intro e; injection e with e; omega⟩
  have hvl := h.own.len
  refine ⟨happ.own, by simp [h.len], fun j hj => ?_, h.below.grown happ.grown h.below.size (fun g hg => (h.own.lt g (by rw [← hown]; exact hg)).1)⟩
  have hj2 : j < n + 1 := by simp [h.len] at hj; exact hj
  by_cases hjn : j < n
  · have hj3 : j < ys.length := by rw [h.len]; exact hjn
    have hm : (j + 1) * sz ≤ n * sz := Nat.mul_le_mul_right _ hjn
    rw [Nat.add_mul, Nat.one_mul] at hm
    have e1 : ((vs ++ us).drop (j * sz)).take sz = (vs.drop (j * sz)).take sz := by
      rw [List.drop_append_of_le_length (by omega), List.take_append_of_le_length (by rw [List.length_drop]; omega)]
    have e2 : (ys ++ [y])[j] = ys[j] := List.getElem_append_left hj3
    rw [e1, e2]
    exact hQ.mono hup (hQ.keep hsame happ.grown.size (h.row j hj3))
  · have hjn2 : j = n := by omega
    subst hjn2
    have e1 : ((vs ++ us).drop (j * sz)).take sz = us := by
      rw [List.drop_append, show vs.drop (j * sz) = [] from List.drop_eq_nil_of_le (by omega), hvl, Nat.sub_self, List.drop_zero, List.nil_append, List.take_of_length_le (by omega)]
    have e2 : (ys ++ [y])[j] = y := by rw [List.getElem_append_right (by rw [h.len]; exact Nat.le_refl _)]; simp
    rw [e1, e2]
    exact hQ.mono hup (hQ.keep hsame happ.grown.size hy)
theorem Bld.rdK (hQ : RdOk Q) (hs0 : 0 < sz) (hL : ∀ b, w0.heap.size ≤ b → L b) (h : Bld L Q e sz w0 w A n c vs ys) : RdS Q sz (fun b => L b ∧ b < w.heap.size) w A n c ys := by
  have hvl := h.own.len
  refine ⟨h.len, by have := h.own.small; omega, h.own.nilcap.1, h.own.nilcap.2, fun hn => ?_⟩
  obtain ⟨g, rfl, hgb, hl⟩ := h.own.form hn
  refine ⟨_, rfl, hl, ⟨hL _ hgb, hl⟩, fun j hj => ⟨(vs.drop (j * sz)).take sz, ?_, ?_, ?_, hQ.mono (fun b hb h2 => ⟨h2.1, hb⟩) (h.row j hj)⟩⟩
  · have hj2 := h.len
    have hm : (j + 1) * sz ≤ n * sz := Nat.mul_le_mul_right _ (by omega)
    rw [Nat.add_mul, Nat.one_mul] at hm
    rw [List.length_take, List.length_drop]; omega
  · have hj2 := h.len
    have hm : (j + 1) * sz ≤ n * sz := Nat.mul_le_mul_right _ (by omega)
    rw [Nat.add_mul, Nat.one_mul] at hm
    rw [show (⟨g, 0, none⟩ : Addr).add (j * sz) = ⟨g, j * sz, none⟩ by unfold Addr.add; split <;> simp_all, h.own.cellAt (by omega)]
    rw [List.getElem?_take, if_pos hs0, List.getElem?_drop, Nat.add_zero]
  · intro i hi
    have hj2 := h.len
    have hm : (j + 1) * sz ≤ n * sz := Nat.mul_le_mul_right _ (by omega)
    rw [Nat.add_mul, Nat.one_mul] at hm
    rw [show (⟨g, 0, none⟩ : Addr).add (j * sz) = ⟨g, j * sz, none⟩ by unfold Addr.add; split <;> simp_all]
    show w.cell? ⟨g, j * sz + i, none⟩ = _
    rw [h.own.cellAt (by omega), List.getElem?_take, if_pos hi, List.getElem?_drop]
theorem Bld.rd (hQ : RdOk Q) (hs0 : 0 < sz) (hL : ∀ b, w0.heap.size ≤ b → L b) (h : Bld L Q e sz w0 w A n c vs ys) : Rd Q sz w A n c ys := (h.rdK hQ hs0 hL).mono hQ fun b hb _ => hb
/-- Outside a set of old blocks: everything that is read is new. -/
theorem Bld.far (h : Bld L Q e sz w0 w A n c vs ys) : 0 < n → ∀ ad, A = some ad → w0.heap.size ≤ ad.block := fun hn ad e => by
  obtain ⟨g, e2, hg, _⟩ := h.own.form hn
  rw [e] at e2; injection e2 with e2; rw [e2]; exact hg
end
end Go.Proofs.Ytgmjighgncpefaa
/- Package polymatrix: expand. -/
namespace Go.Proofs.Ytgmjighgncpefaa
set_option linter.unusedVariables false
set_option linter.unusedSimpArgs false
open Go.RowKit

theorem cell_at_var {w : World} {a : Addr} {v : Value} (h : w.cell? a = some v) : ∃ g o, a = ⟨g, o, none⟩ := by
  obtain ⟨g, o, p⟩ := a
  cases p with
  | none => exact ⟨g, o, rfl⟩
  | some p =>
    exfalso
    unfold World.cell? at h
    split at h
    · simp at h
    · cases h
theorem rangeAt_two {z : World} {g o : Nat} {u v : Value} (h0 : z.cell? ⟨g, o, none⟩ = some u) (h1 : z.cell? ⟨g, o + 1, none⟩ = some v) : z.rangeAt g o [u, v] := fun j x hx => by
  match j, hx with
  | 0, hx => injection hx with hx; rw [← hx]; exact h0
  | 1, hx => injection hx with hx; rw [← hx]; exact h1
theorem SPP.tail_ {w : World} {A : Option Addr} {n c : Nat} {pss : List (List Po)} (h : SPP w A n c pss) (h1 : 1 ≤ n) : SPP w (cutA A 1 c) (n - 1) (c - 1) (pss.drop 1) := by
  have hl := h.len
  have hc := h.cap
  refine ⟨by simp; omega, by have := h.small; omega, fun e => cutA_none h.nil h1 (Nat.le_refl n) e, by omega, fun h0 => ?_⟩
  obtain ⟨ad, rfl, hlt, hcl⟩ := h.mem (by omega)
  unfold cutA
  rw [if_neg (by omega)]
  refine ⟨ad.add 1, rfl, by rw [block_of_add]; exact hlt, fun j hj => ?_⟩
  rw [add_of_add]
  obtain ⟨B, m, d, q1, q2⟩ := hcl (1 + j) (by omega)
  refine ⟨B, m, d, q1, ?_⟩
  rw [show (pss.drop 1).getD j [] = pss.getD (1 + j) [] by simp [List.getD, List.getElem?_drop, Nat.add_comm]]
  exact q2
theorem SPP.blk {w : World} {A : Option Addr} {n c : Nat} {pss : List (List Po)} (h : SPP w A n c pss) (h1 : 1 ≤ n) : ∀ ad, A = some ad → ad.block < w.heap.size := fun ad e => by
  obtain ⟨ad2, e2, hl, _⟩ := h.mem (by omega)
  rw [e] at e2
  cases e2
  exact hl

theorem eExpand : ∀ args w, (callFunc 20 args).run Try.prog w = .ok (.enter 20 args) w := enters (fn := Try.f20) (by kernel_rfl) (by kernel_rfl) (by kernel_rfl)
theorem eAddP : ∀ args w, (callFunc 35 args).run Try.prog w = .ok (.enter 35 args) w := enters (fn := Try.f35) (by kernel_rfl) (by kernel_rfl) (by kernel_rfl)

/-- The sum for k rows. -/
def ExpR (w : World) (k : Nat) (D : LP) (e : Ending) (w' : World) : Prop :=
  ∃ R d ys, e = .returned (.slice R (59 * k + 1) d) ∧ OwnI w' w.heap.size R (59 * k + 1) d (ys.map wr64) ∧ LP.of (-20 * (k : Int)) ys = D ∧ Below w.heap.size w w'

set_option maxRecDepth 100000 in
set_option maxHeartbeats 8000000 in
theorem expandP_any (N : Nat) : ∀ (k : Nat) (A : Option Addr) (c : Nat) (pss : List (List Po)) (B : Option Addr) (d : Nat) (cs : List Int) (w : World), SPP w A k c pss → SL w B k d cs → k ≤ 4 → (∀ r ∈ pss, r.length = N ∧ ∀ p ∈ r, polyE p = 0) → (∀ x ∈ cs, 0 ≤ x ∧ x < N) →
    Calls Try.prog 20 #[.slice A k c, .slice B k d] w (ExpR w k (detR k (pmM pss cs)))
  | 0, A, c, pss, B, d, cs, w, ha, hb, hk, hr, hcs => by
    have HD : Hid (detR 0 (pmM pss cs) = 1) := hide rfl
    have hl0 : OwnI (w.alloc (.cells #[.int .i64 1] 3)) w.heap.size (some ⟨w.heap.size, 0, none⟩) 1 1 [1] := OwnI.lit w [1] (Nat.le_refl _) (by simp) rfl rfl rfl
    have HL := hide hl0
    have HB1 : Hid (Below w.heap.size w (w.alloc (.cells #[.int .i64 1] 3))) := hide ((Below.refl _ _).alloc (Nat.le_refl _) _)
    clear ha hb hk hr hcs hl0
    go_enter Try.func20, Try.ntmps20
    go_wp2_with fail
    go_ret
    rw [HD.out]
    exact ⟨_, _, [1], rfl, HL.out, rfl, HB1.out⟩
  | n + 1, A, c, pss, B, d, cs, w, ha, hb, hk, hr, hcs => by
    have IH := hide (expandP_any N n)
    obtain ⟨k, hkn⟩ : ∃ k, n + 1 = k := ⟨_, rfl⟩
    have HTL := hide (ha.tail_ (by omega))
    have HP0 := hide (ha.at_ (k := 0) (by omega))
    have HAB := hide (ha.blk (by omega))
    have HLA := hide ha.len
    have HLB := hide hb.il.len
    have hsm := hb.il.small
    obtain ⟨p0, prest, hpe⟩ : ∃ p0 prest, pss = p0 :: prest := by
      cases pss with
      | nil => have := ha.len; simp at this
      | cons p q => exact ⟨p, q, rfl⟩
    subst hpe
    obtain ⟨hp0l, hp0e⟩ := hr p0 (by simp)
    have HRR : Hid (∀ r ∈ prest, r.length = N ∧ ∀ p ∈ r, polyE p = 0) := hide (fun r h => hr r (by simp [h]))
    have HPE := hide hp0e
    have HCS := hide hcs
    have HB := hide hb
    have HFULL : Hid (pmE (p0 :: prest) cs k n = detR k (pmM (p0 :: prest) cs)) := hide (by rw [← hkn]; exact pmE_full _ _ _)
    have HSTEP : Hid (∀ j, j < k → ∀ (lo : Int) (xs : List Int), p0.getD (cs.getD j 0).toNat (0, []) = (lo, xs) → ∀ D, D = detR n (pmM prest (without cs j)) → pmE (p0 :: prest) cs (j + 1) n = pmE (p0 :: prest) cs j n + LP.term 0 (CR.sgR Int j) * (LP.of lo xs * D)) := hide (fun j hj lo xs h D hD => pmE_step p0 prest (by rw [HLB.out]; omega) h n D hD)
    rw [hkn] at HTL HLA HLB HB hsm hk ⊢
    rw [show k - 1 = n by omega, show (p0 :: prest).drop 1 = prest from rfl] at HTL
    rw [show (p0 :: prest).getD 0 [] = p0 from rfl] at HP0
    clear ha hb hr hcs hp0e
    obtain ⟨ad, RB, rm, rd, hA, hc0, hp0⟩ := HP0.out
    subst hA
    rw [show ad.add 0 = ad by unfold Addr.add; simp] at hc0
    have hrm : rm = N := by rw [← hp0.len]; exact hp0l
    subst hrm
    have HC0 := hide hc0
    have HP := hide hp0
    have hadl : ad.block < w.heap.size := HAB.out ad rfl
    clear hc0 hp0 HP0 HAB hp0l
    obtain ⟨T, hT⟩ : ∃ T, detR k (pmM (p0 :: prest) cs) = T := ⟨_, rfl⟩
    rw [hT] at HFULL ⊢
    clear hT
    obtain ⟨L, hL⟩ : ∃ L : Nat, 59 * k + 1 = L := ⟨_, rfl⟩
    have hLe : (k : Int) * 59 + 1 = (L : Int) := by omega
    have hk0 : ((k : Int) == 0) = false := by simp; omega
    have hLs : L ≤ 1000 := by omega
    obtain ⟨i0, hi0, hz0, hz1, hz2⟩ := info_parts int_info
    have HI0 := hide hi0
    have HZ0 := hide hz0
    have HZ1 := hide hz1
    have HZ2 := hide hz2
    have HE0 : Hid (pmE (p0 :: prest) cs 0 n = 0) := hide rfl
    have HRE : Hid (LP.of (-20 * (k : Int)) (List.replicate L 0) = 0) := hide (LP.of_repl _ _)
    have HRW : Hid ((List.replicate L (0 : Int)).map wr64 = List.replicate L 0) := hide (by rw [List.map_replicate]; rfl)
    have HN := hide hkn
    have HK4 := hide hk
    clear hi0 hz0 hz1 hz2 hkn
    unfold ExpR
    rw [hL]
    go_enter Try.func20, Try.ntmps20
    go_wp2_with (at_make; refine wpList_make_full _ rfl _ _ 48 rfl w.heap.size 3 i0 (.int .i64 0) 1 Try.underlying48 HI0.out HZ0.out HZ1.out .i64 .i64 _ _ L rfl rfl (by omega) (by omega) (by rw [HZ2.out]; omega) (by unfold maxLen; omega) (Nat.le_refl _) ?_; intro w1 hown1 hg1)
    have hB1 : Below w.heap.size w w1 := (Below.refl _ _).grown hg1 (Nat.le_refl _) (by intro k hk; cases hk)
    have hw1 := OwnI.zero (z := #[]) hown1 (by omega)
    rw [← HRW.out] at hw1
    have HO := hide hw1
    have HW := hide hB1
    clear hown1 hg1 hw1 hB1
    go_loopw [6, 21] (fun sv jv wx => ∃ (j : Nat) (ts : List Int), j ≤ k ∧ jv = .int .i64 j ∧ sv = .int .i64 (CR.sgR Int j) ∧ Hid (LP.of (-20 * (k : Int)) ts = pmE (p0 :: prest) cs j n) ∧ Hid (OwnI wx w.heap.size (some ⟨w.heap.size, 0, none⟩) L L (ts.map wr64)) ∧ Hid (Below w.heap.size w wx)) (fun _ jv _ => k - (intOf jv).toNat)
    case atStart => exact ⟨0, _, Nat.zero_le _, rfl, rfl, hide (HRE.out.trans HE0.out.symm), HO, HW⟩
    case round =>
      clear HO HW HRE HE0 HRW
      obtain ⟨j, ts, hj, rfl, rfl, HT, HO, HW⟩ := hrel
      by_cases hjk : j < k
      · obtain ⟨bd, hBe, hcl⟩ := (HB.out.below HW.out).il.at_ hjk
        subst hBe
        have HX := hide (HCS.out _ (LP.getD_mem' (cs := cs) (i := j) (by rw [HLB.out]; exact hjk)))
        have HST := hide (HSTEP.out j hjk)
        obtain ⟨X, hX⟩ : ∃ X : Nat, cs.getD j 0 = (X : Int) := ⟨(cs.getD j 0).toNat, by have := HX.out; omega⟩
        rw [hX] at hcl HX HST
        have hXN : X < rm := by have := HX.out; omega
        rw [Int.toNat_natCast] at HST
        obtain ⟨rb, PB, pn, pc, hrb, hq0, hq1, hps, hwf⟩ := HP.out.at_ hXN
        subst hrb
        have HPX : Hid (polyE (p0.getD X (0, [])) = 0) := hide (HPE.out _ (by
          have : X < p0.length := by rw [HP.out.len]; exact hXN
          rw [List.getD_eq_getElem?_getD, List.getElem?_eq_getElem this]
          exact List.getElem_mem _))
        obtain ⟨lo, xs, hpo⟩ : ∃ lo xs, p0.getD X (0, []) = (lo, xs) := ⟨_, _, rfl⟩
        rw [hpo] at hq0 hps hwf HPX
        have HST2 := hide (HST.out lo xs hpo)
        dsimp only at hq0 hps hwf
        obtain ⟨_, hpn20, hlo1, hlo2, hco⟩ := polyE_zero HPX.out
        dsimp only at hpn20 hlo1 hlo2 hco
        have HCO := hide hco
        have HPS := hide hps
        have HQ0 := hide hq0
        have HQ1 := hide hq1
        have HJK := hide hjk
        have hpn : xs.length = pn := hps.il.len
        rw [hpn] at hpn20
        have HJ := hide hj
        have hw1 : IntKind.i64.wrap ((j : Int) + 1) = (j : Int) + 1 := by rw [IntKind.wrap_i64]; omega
        clear hX HX HST HPX hpo hq0 hq1 hps hwf hco hpn hj
        go_wp2_with fail
        refine (clone_any (some bd) k d cs _ (HB.out.below HW.out).il (fun h => by cases h)).mono ?_
        rintro e w2 ⟨E, en, ec, rfl, hown, hb2⟩
        have hen : k = en := by rw [← hown.len]; exact HLB.out.symm
        subst hen
        obtain ⟨ge, hge, hEe⟩ : ∃ ge, wr.heap.size ≤ ge ∧ E = some ⟨ge, 0, none⟩ := by
          rcases hown.own.2 with ⟨_, h0⟩ | ⟨g', cap, cur, hv, hg', _⟩
          · omega
          · injection hv with hv
            exact ⟨g', hg', hv⟩
        subst hEe
        have hwr := HW.out.size
        have hg0 : w.heap.size < wr.heap.size := (HO.out.lt _ rfl).2
        have HO2 := hide ((KeepT.below hb2).ownI HO.out)
        have HW2 := hide (HW.out.trans (hb2.mono hwr))
        have hs2 := hb2.size
        have HOWN := hide hown
        have HHG := hide hge
        have HHS := hide hwr
        clear HO HW hown hb2 hcl
        go_wp2_with fail
        refine (delete_any wr.heap.size ge k ec j cs _ HOWN.out hjk).mono ?_
        rintro e w3 ⟨rfl, hown3, hg3⟩
        have HO3 := hide (HO2.out.kept hg3 (.inr (by simp [Value.ownBlock]; omega)))
        have HW3 := hide (HW2.out.grown hg3 (by have := HW2.out.size; omega) (fun q hq => by injection hq with hq; omega))
        have hs3 := hg3.size
        have hg3 : w.heap.size < w3.heap.size := by omega
        have hk1 : k - 1 = n := by have := HN.out; omega
        rw [hk1] at hown3 ⊢
        have HOW3 := hide hown3.sl
        clear HOWN HO2 HW2 hown3 hs2 hs3 hge hwr hk1 hg0 HHG HHS
        obtain ⟨sg, hsg⟩ : ∃ sg, CR.sgR Int j = sg := ⟨_, rfl⟩
        obtain ⟨sg2, hsg2⟩ : ∃ sg, CR.sgR Int (j + 1) = sg := ⟨_, rfl⟩
        have HSG : Hid (sg = 1 ∨ sg = -1) := hide (by rw [← hsg]; exact sgI_cases j)
        have HSG2 : Hid (IntKind.i64.wrap (-sg) = sg2) := hide (by
          rw [← hsg2, CR.sgR_succ, hsg, IntKind.wrap_i64]
          have := HSG.out
          omega)
        rw [hsg] at HST2 ⊢
        have HSN := hide hsg2
        clear hsg hsg2
        go_upto_region 9 with fail
        have hpl : 0 < pn → ∀ a, PB = some a → a.block ≠ w.heap.size := fun h a e => by have := HPS.out.inside h a e; omega
        obtain ⟨g3, o3, h3⟩ := cell_at_var HQ0.out
        have hq0 := HQ0.out
        have hq1 := HQ1.out
        rw [h3] at hq0 hq1
        have hlt3 : g3 < w.heap.size := cell_lt hq0
        have hxX : X < rm := hXN
        have hW3s := HW3.out.size
        refine wp_region_T (S := fun x => Below w3.heap.size w3 x) 12 (by kernel_rfl) (Below.refl _ _).drew (fun hS => ?_)
        have hto : ∀ x, Below w3.heap.size w3 x → Below w.heap.size w x := fun x hx => HW3.out.trans (hx.mono hW3s)
        refine wpT_tk 0 (v := .slice (some ⟨w.heap.size, 0, none⟩) L L) rfl (by kernel_rfl) (by kernel_rfl) (by kernel_rfl) (by kernel_rfl) (yi rfl fun x hx => gives_move (.inl rfl) rfl) hS ?_
        go_frame
        refine wpT_tk 1 (v := .int .i64 sg) rfl (by kernel_rfl) (by kernel_rfl) (by kernel_rfl) (by kernel_rfl) (yi rfl fun x hx => gives_move (.inl rfl) rfl) hS ?_
        go_frame
        refine wpT_tk 2 (v := .slice (some ad) k c) rfl (by kernel_rfl) (by kernel_rfl) (by kernel_rfl) (by kernel_rfl) (yi rfl fun x hx => gives_move (.inl rfl) rfl) hS ?_
        go_frame
        refine wpT_tk 3 (v := .pointer (some ad)) rfl (by kernel_rfl) (by kernel_rfl) (by kernel_rfl) (by kernel_rfl) (yi rfl fun x hx => gives_index0 rfl Try.underlying22 (fun w => by kernel_rfl) rfl rfl (by omega)) hS ?_
        go_frame
        refine wpT_tk 4 (v := .slice (some rb) rm rd) rfl (by kernel_rfl) (by kernel_rfl) (by kernel_rfl) (by kernel_rfl) (yi rfl fun x hx => gives_load1 rfl (by kernel_rfl) rfl (((hto x hx).cell (p := ad) hadl).trans HC0.out)) hS ?_
        go_frame
        refine wpT_tk 5 (v := .int .i64 X) rfl (by kernel_rfl) (by kernel_rfl) (by kernel_rfl) (by kernel_rfl) (yi rfl fun x hx => gives_move (.inl rfl) rfl) hS ?_
        go_frame
        refine wpT_tk 6 (v := .pointer (some (rb.add (X * 2)))) rfl (by kernel_rfl) (by kernel_rfl) (by kernel_rfl) (by kernel_rfl) (yi rfl fun x hx => gives_indexSlice rfl Try.underlying30 (fun w => by kernel_rfl) rfl rfl hxX) hS ?_
        go_frame
        rw [h3]
        refine wpT_tk 7 (v := PV lo PB pn pc) rfl (by kernel_rfl) (by kernel_rfl) (by kernel_rfl) (by kernel_rfl) (yi rfl fun x hx => gives_loadMid (cs := [.int .i64 lo, .slice PB pn pc]) rfl rfl (rangeAt_two (((hto x hx).cell (p := ⟨g3, o3, none⟩) hlt3).trans hq0) (((hto x hx).cell (p := ⟨g3, o3 + 1, none⟩) hlt3).trans hq1)) Try.underlying25 (by kernel_rfl) (by kernel_rfl)) hS ?_
        go_frame
        refine wpT_tk 8 (v := .slice (some ad) k c) rfl (by kernel_rfl) (by kernel_rfl) (by kernel_rfl) (by kernel_rfl) (yi rfl fun x hx => gives_move (.inl rfl) rfl) hS ?_
        go_frame
        refine wpT_tk 9 (v := .slice (cutA (some ad) 1 c) (k - 1) (c - 1)) rfl (by kernel_rfl) (by kernel_rfl) (by kernel_rfl) (by kernel_rfl) (yi rfl fun x hx => gives_cut_l rfl Try.underlying22 (by kernel_rfl) rfl rfl (by omega)) hS ?_
        go_frame
        refine wpT_tk 10 (v := .slice (some ⟨ge, 0, none⟩) n ec) rfl (by kernel_rfl) (by kernel_rfl) (by kernel_rfl) (by kernel_rfl) (yi rfl fun x hx => gives_move (.inl rfl) rfl) hS ?_
        go_frame
        have hk1 : k - 1 = n := by have := HN.out; omega
        refine wpT_1 11 rfl (by kernel_rfl) ?_
        rw [hk1]
        have hWd := hto _ hS
        refine wp_call [.slice (cutA (some ad) 1 c) n (c - 1), .slice (some ⟨ge, 0, none⟩) n ec] rfl rfl eExpand rfl ((IH.out (cutA (some ad) 1 c) (c - 1) prest (some ⟨ge, 0, none⟩) ec (without cs j) w3.drew (HTL.out.below hWd) (HOW3.out.below hS) (by have := HK4.out; omega) HRR.out (fun x hx => HCS.out x (without_mem hx))).mono ?_)
        rintro e w4 ⟨R, rd4, ys, rfl, hown4, hlp4, hb4⟩
        have hS4 : Below w3.heap.size w3 w4 := hS.trans (hb4.mono hS.size)
        refine ⟨_, rfl, fun _ => hS4, ?_⟩
        go_frame
        refine wpT_1 12 rfl (by kernel_rfl) ?_
        have hRb : 0 < 59 * n + 1 → ∀ a, R = some a → a.block ≠ w.heap.size := fun _ a e => by
          rcases hown4.own.2 with ⟨_, h0⟩ | ⟨g', cap, cur, hv, hg', _⟩
          · omega
          · injection hv with hv
            rw [e] at hv
            injection hv with hv
            rw [hv]
            show g' ≠ w.heap.size
            have h1 : w3.drew.heap.size ≤ g' := hg'
            have h2 : w3.drew.heap.size = w3.heap.size := rfl
            omega
        have CP := addP_any w.heap.size w.heap.size L L ts sg lo PB pn pc xs R (59 * n + 1) rd4 ys w4 (-20 * (n : Int)) ((KeepT.below hS4).ownI HO3.out) (HPS.out.below (hto _ hS4)) hown4.sl HSG.out HCO.out (by omega) (by omega) hpn20 (by have := HN.out; omega) (by omega) hpl hRb
        rw [show -20 * (n : Int) - 20 = -20 * (k : Int) by have := HN.out; omega] at CP
        refine wp_call [.slice (some ⟨w.heap.size, 0, none⟩) L L, .int .i64 sg, PV lo PB pn pc, .slice R (59 * n + 1) rd4] rfl rfl eAddP rfl (CP.mono ?_)
        rintro e w5 ⟨rfl, ts2, hl2, hlp2, hown5, hb5⟩
        refine ⟨_, rfl, fun h => absurd rfl h, ?_⟩
        go_frame
        refine wpT_done (by kernel_rfl) (noPanic_mk ?_) _
        have HT2 : Hid (LP.of (-20 * (k : Int)) ts2 = pmE (p0 :: prest) cs (j + 1) n) := hide (by rw [hlp2, HT.out, HST2.out _ hlp4])
        have HO5 := hide hown5
        have HW5 := hide ((hto _ hS4).trans hb5)
        have hjk := HJK.out
        have hsg2 := HSG2.out
        have HEND := HSN.out
        clear HT HO3 HW3 hlp2 hown5 hb5 hS hS4 hto hWd hown4 hlp4 hb4 hRb hpl CP hq0 hq1 h3 HOW3 HST2
        go_wp2_with fail
        go_roundw
        case rel => exact ⟨j + 1, ts2, by omega, by go_num, by rw [← HEND], HT2, HO5, HW5⟩
        case measure => simp [intOf]; omega
      · have hje : j = k := by omega
        subst hje
        go_wp2_with fail
        go_ret
        exact ⟨_, _, ts, rfl, HO.out, HT.out.trans HFULL.out, HW.out⟩
end Go.Proofs.Ytgmjighgncpefaa
