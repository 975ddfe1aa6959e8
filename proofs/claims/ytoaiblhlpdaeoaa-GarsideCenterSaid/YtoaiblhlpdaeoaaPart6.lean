/- Several texts in one. -/
import Derived.Test.YtoaiblhlpdaeoaaBase1
import Derived.Test.YtoaiblhlpdaeoaaPart1
import Derived.Maps.RangeWalk
import Derived.Maps.Keyed
import Derived.Deep.DeepCutAuto
import Derived.Test.YtoaiblhlpdaeoaaPart5
import Derived.Test.YtoaiblhlpdaeoaaPart2
import Derived.Test.YtoaiblhlpdaeoaaPart3
import Derived.Deep.RegionWith
import Derived.Lib.SliceRun
import Derived.Laws.EntriesVeiled
import Derived.Test.YtoaiblhlpdaeoaaPart4
/- Maps from integers to integers as lists of terms; a range over one, whatever its order. -/
namespace Go.Proofs.Ytoaiblhlpdaeoaa
set_option linter.unusedVariables false
set_option linter.unusedSimpArgs false
open Go.RowKit Go.Maps

theorem keyI : Keyed Try.prog 3 := int_keyed Try.underlying3
theorem keyI_mk {x : Int} (h : (Lit.int .i64 x).wf = true) : keyOf Try.prog 3 (.int .i64 x) = some (.int .i64 x) := keyOf_int_mk Try.underlying3 h
theorem wfI {x : Int} (h : x.natAbs ≤ 4000000000000000000) : (Lit.int .i64 x).wf = true := by
  have h1 : IntKind.i64.min = -9223372036854775808 := by decide
  simp [Lit.wf, h1]
  omega
/-- The element at a key. -/
def lookT : List Tm → Int → Option Int
  | [], _ => none
  | (e, c) :: l, x => if e = x then some c else lookT l x
def lookV (o : List Tm) : Value → Option Value
  | .int .i64 x => (lookT o x).map (Value.int .i64)
  | _ => none
theorem lookT_of_mem : ∀ {o : List Tm} {x c : Int}, (o.map (·.1)).Nodup → (x, c) ∈ o → lookT o x = some c
  | (e, d) :: l, x, c, hn, h => by
    have hn' := List.nodup_cons.1 hn
    unfold lookT
    rcases List.mem_cons.1 h with h | h
    · injection h with h1 h2
      subst h1; subst h2
      rw [if_pos rfl]
    · have : e ≠ x := fun e' => hn'.1 (by rw [e']; exact List.mem_map.2 ⟨(x, c), h, rfl⟩)
      rw [if_neg this]
      exact lookT_of_mem hn'.2 h
theorem coefT_not {o : List Tm} {x : Int} (h : ∀ p ∈ o, p.1 ≠ x) : coefT o x = 0 := by
  induction o with
  | nil => rfl
  | cons p l ih =>
    show (if p.1 = x then p.2 else 0) + coefT l x = 0
    rw [if_neg (h p (by simp)), ih fun q hq => h q (by simp [hq])]
    rfl
theorem coefT_look : ∀ {o : List Tm} {x : Int}, (o.map (·.1)).Nodup → coefT o x = (lookT o x).getD 0
  | [], x, _ => rfl
  | (e, d) :: l, x, hn => by
    have hn' := List.nodup_cons.1 hn
    show (if e = x then d else 0) + coefT l x = _
    unfold lookT
    by_cases h : e = x
    · rw [if_pos h, if_pos h, coefT_not fun p hp e' => hn'.1 (by rw [h, ← e']; exact List.mem_map.2 ⟨p, hp, rfl⟩)]
      show d + 0 = d
      omega
    · rw [if_neg h, if_neg h, coefT_look hn'.2, Int.zero_add]
/-- v is put at x. -/
def putT : List Tm → Int → Int → List Tm
  | [], x, v => [(x, v)]
  | (e, c) :: l, x, v => if e = x then (x, v) :: l else (e, c) :: putT l x v
theorem putT_keys : ∀ (o : List Tm) (x v : Int), ∀ p ∈ putT o x v, p ∈ o ∨ p = (x, v)
  | [], x, v, p, h => .inr (by simpa [putT] using h)
  | (e, c) :: l, x, v, p, h => by
    unfold putT at h
    by_cases he : e = x
    · rw [if_pos he] at h
      rcases List.mem_cons.1 h with h | h
      · exact .inr h
      · exact .inl (List.mem_cons_of_mem _ h)
    · rw [if_neg he] at h
      rcases List.mem_cons.1 h with h | h
      · exact .inl (by rw [h]; exact List.mem_cons_self)
      · rcases putT_keys l x v p h with h | h
        · exact .inl (List.mem_cons_of_mem _ h)
        · exact .inr h
theorem putT_look : ∀ (o : List Tm) (x v y : Int), lookT (putT o x v) y = if y = x then some v else lookT o y
  | [], x, v, y => by
    show (if x = y then some v else none) = if y = x then some v else none
    by_cases h : x = y
    · rw [if_pos h, if_pos h.symm]
    · rw [if_neg h, if_neg fun e => h e.symm]
  | (e, c) :: l, x, v, y => by
    unfold putT
    by_cases he : e = x
    · rw [if_pos he]
      show (if x = y then some v else lookT l y) = if y = x then some v else if e = y then some c else lookT l y
      by_cases h : x = y
      · rw [if_pos h, if_pos h.symm]
      · rw [if_neg h, if_neg fun e' => h e'.symm, if_neg (by omega)]
    · rw [if_neg he]
      show (if e = y then some c else lookT (putT l x v) y) = if y = x then some v else if e = y then some c else lookT l y
      rw [putT_look l x v y]
      by_cases h : e = y
      · rw [if_pos h, if_pos h, if_neg (by omega)]
      · rw [if_neg h, if_neg h]
theorem putT_nodup : ∀ (o : List Tm) (x v : Int), (o.map (·.1)).Nodup → ((putT o x v).map (·.1)).Nodup
  | [], x, v, _ => by simp [putT]
  | (e, c) :: l, x, v, h => by
    have h' := List.nodup_cons.1 h
    unfold putT
    by_cases he : e = x
    · rw [if_pos he]
      subst he
      exact h
    · rw [if_neg he]
      refine List.nodup_cons.2 ⟨fun hm => ?_, putT_nodup l x v h'.2⟩
      obtain ⟨p, hp, e1⟩ := List.mem_map.1 hm
      rcases putT_keys l x v p hp with h1 | h1
      · exact h'.1 (by rw [← show p.1 = e from e1]; exact List.mem_map.2 ⟨p, h1, rfl⟩)
      · rw [h1] at e1
        exact he e1.symm
theorem putT_length : ∀ (o : List Tm) (x v : Int), (putT o x v).length = if (lookT o x).isSome then o.length else o.length + 1
  | [], x, v => rfl
  | (e, c) :: l, x, v => by
    unfold putT lookT
    by_cases he : e = x
    · rw [if_pos he, if_pos he]; rfl
    · rw [if_neg he, if_neg he]
      show (putT l x v).length + 1 = _
      rw [putT_length l x v]
      split <;> rfl
/-- Block b is a map with just the entries o. -/
structure MapI (w : World) (b : Nat) (o : List Tm) : Prop where
  dict : Dict Try.prog 3 w b o.length (lookV o)
  nodup : (o.map (·.1)).Nodup
section
variable {w w' : World} {b : Nat} {o : List Tm}
theorem MapI.lt (h : MapI w b o) : b < w.heap.size := h.dict.lt
theorem MapI.below (h : MapI w b o) (hb : Below w.heap.size w w') : MapI w' b o := ⟨h.dict.below hb, h.nodup⟩
theorem MapI.kept {row : Option Nat} (h : MapI w b o) (hg : w.grownBy w' row) (hne : some b ≠ row) : MapI w' b o := ⟨h.dict.kept hg hne, h.nodup⟩
theorem MapI.made (w : World) : MapI (w.alloc (.map #[] 0)) w.heap.size [] := ⟨(Dict.made w _ _).congr rfl fun key kl _ => by unfold lookV; split <;> rfl, List.nodup_nil⟩
theorem MapI.store (h : MapI w b o) {t : TypeId} (ht : Try.prog.underlying t = some (.map 3 3)) {x v : Int} (hx : (Lit.int .i64 x).wf = true) (hn : o.length < 1000000) :
    ∃ w', (Instr.mapUpdate t (.map (some b)) (.int .i64 x) (.int .i64 v)).run Try.prog w = .ok () w' ∧ MapI w' b (putT o x v) ∧ w.grownBy w' (some b) ∧ w'.heap.size = w.heap.size := by
  obtain ⟨w', h1, h2, h3, h4⟩ := h.dict.store keyI ht (by unfold maxLen; omega) (keyI_mk hx) (.int .i64 v) (f' := lookV (putT o x v)) (by
    show ((lookT (putT o x v) x).map _) = _
    rw [putT_look, if_pos rfl]; rfl) (fun y l hy hne => by
    obtain ⟨z, rfl, _, _⟩ := keyOf_int_inv Try.underlying3 hy
    show ((lookT (putT o x v) z).map _) = (lookT o z).map _
    rw [putT_look, if_neg fun e => hne (by rw [e])])
  refine ⟨w', h1, ⟨h2.congr ?_ fun _ _ _ => rfl, putT_nodup o x v h.nodup⟩, h3, h4⟩
  rw [putT_length]
  show (if ((lookT o x).map (Value.int .i64)).isSome = true then _ else _) = _
  rw [Option.isSome_map]
end

/-! ### a range -/
/-- A range over the map with entries T: done and rem(aining). -/
structure RangeI (w : World) (b r : Nat) (T done rem : List Tm) (cnt : Nat) : Prop where
  nodup : (T.map (·.1)).Nodup
  perm : (done ++ rem).Perm T
  run : ∃ (n : Nat) (D : DataW Value) (left : Lit → Bool), w.ranges Try.prog 3 HR b r n D left cnt ∧ (∀ p ∈ T, ∀ z, D.atKey (.int .i64 p.1) z = .held (.int .i64 p.2)) ∧ (∀ x : Int, (Lit.int .i64 x).wf = true → (left (.int .i64 x) = true ↔ ∃ c, (x, c) ∈ rem)) ∧ ∀ p ∈ T, (Lit.int .i64 p.1).wf = true
section
variable {w w' : World} {b r cnt : Nat} {T done rem : List Tm}
theorem RangeI.kept {row : Option Nat} (h : RangeI w b r T done rem cnt) (hg : w.grownBy w' row) (hb : some b ≠ row) (hr : some r ≠ row) : RangeI w' b r T done rem cnt := by
  obtain ⟨n, D, left, h1, h2⟩ := h.run
  exact ⟨h.nodup, h.perm, n, D, left, h1.kept hg hb hr, h2⟩
theorem RangeI.lt (h : RangeI w b r T done rem cnt) : r < w.heap.size := by
  obtain ⟨n, D, left, h1, _⟩ := h.run
  exact h1.lt
theorem RangeI.mem (h : RangeI w b r T done rem cnt) : ∀ p ∈ done, p ∈ T := fun p hp => h.perm.subset (List.mem_append_left _ hp)
end
section
variable (w : World) {ops : Array Oper} {rest : List Oper} {o : Oper} {a : Act} {Q : Exit → Act → World → Prop}
end
end Go.Proofs.Ytoaiblhlpdaeoaa
/- timbref1.Split; the walk's laws for a map of terms. -/
namespace Go.Proofs.Ytoaiblhlpdaeoaa
set_option linter.unusedVariables false
set_option linter.unusedSimpArgs false
open Go.RowKit Go.Maps

theorem MapI.setCell {w : World} {b : Nat} {o : List Tm} (h : MapI w b o) {g : Addr} (hg : b ≠ g.block) (v : Value) : MapI (w.setCell g v) b o := ⟨h.dict.setCell hg v, h.nodup⟩
/-- What is in a map of terms is the coefficient. -/
theorem MapI.val {w : World} {b : Nat} {o : List Tm} (h : MapI w b o) {x c : Int} (hm : (x, c) ∈ o) : coefT o x = c := by rw [coefT_look h.nodup, lookT_of_mem h.nodup hm]; rfl
section
variable (w : World) {ops : Array Oper} {rest : List Oper} {o : Oper} {a : Act} {Q : Exit → Act → World → Prop}
end
/-- A new map of terms that reads as x; its keys are not far off. -/
def GivesT (w : World) (x : LP) (E : Nat) (e : Ending) (w' : World) : Prop :=
  ∃ b o, e = .returned (.map (some b)) ∧ w.heap.size ≤ b ∧ MapI w' b o ∧ LP.mk o = x ∧ (∀ p ∈ o, p.1.natAbs ≤ E) ∧ Below w.heap.size w w'
end Go.Proofs.Ytoaiblhlpdaeoaa
/- timbref1.Terms.Plus and Mul. -/
namespace Go.Proofs.Ytoaiblhlpdaeoaa
set_option linter.unusedVariables false
set_option linter.unusedSimpArgs false
open Go.RowKit Go.Maps

section
variable {w w' : World} {b r cnt : Nat} {T done rem : List Tm} {x c : Int}
theorem RangeI.all (h : RangeI w b r T done [] cnt) : done.Perm T := by
  have := h.perm
  rwa [List.append_nil] at this
end

end Go.Proofs.Ytoaiblhlpdaeoaa
/- timbref1.Terms.Poly. -/
namespace Go.Proofs.Ytoaiblhlpdaeoaa
set_option linter.unusedVariables false
set_option linter.unusedSimpArgs false
open Go.RowKit Go.Maps

/-- What the first loop of Poly knows of the terms that it has seen. -/
def LH (done : List Tm) (low high : Int) (any : Bool) : Prop :=
  match any with
  | false => (∀ p ∈ done, p.2 = 0) ∧ low = 0 ∧ high = 0
  | true => (∃ c, c ≠ 0 ∧ (low, c) ∈ done) ∧ (∃ c, c ≠ 0 ∧ (high, c) ∈ done) ∧ ∀ p ∈ done, p.2 ≠ 0 → low ≤ p.1 ∧ p.1 ≤ high
theorem LH.zero {done : List Tm} {low high : Int} {any : Bool} (h : LH done low high any) (x : Int) : LH (done ++ [(x, 0)]) low high any := by
  cases any with
  | false => exact ⟨fun p hp => by rcases List.mem_append.1 hp with hp | hp; exact h.1 p hp; rw [List.mem_singleton.1 hp], h.2⟩
  | true =>
    obtain ⟨⟨c, hc, h1⟩, ⟨d, hd, h2⟩, h3⟩ := h
    refine ⟨⟨c, hc, List.mem_append_left _ h1⟩, ⟨d, hd, List.mem_append_left _ h2⟩, fun p hp h0 => ?_⟩
    rcases List.mem_append.1 hp with hp | hp
    · exact h3 p hp h0
    · rw [List.mem_singleton.1 hp] at h0; exact absurd rfl h0
theorem LH.first {done : List Tm} {low high : Int} (h : LH done low high false) (x : Int) {c : Int} (hc : c ≠ 0) : LH (done ++ [(x, c)]) x x true := by
  refine ⟨⟨c, hc, by simp⟩, ⟨c, hc, by simp⟩, fun p hp h0 => ?_⟩
  rcases List.mem_append.1 hp with hp | hp
  · exact absurd (h.1 p hp) h0
  · rw [List.mem_singleton.1 hp]; exact ⟨Int.le_refl _, Int.le_refl _⟩
theorem LH.next {done : List Tm} {low high : Int} (h : LH done low high true) (x : Int) {c : Int} (hc : c ≠ 0) : LH (done ++ [(x, c)]) (if x < low then x else low) (if high < x then x else high) true := by
  obtain ⟨⟨c1, hc1, h1⟩, ⟨d, hd, h2⟩, h3⟩ := h
  refine ⟨?_, ?_, fun p hp h0 => ?_⟩
  · by_cases e : x < low
    · rw [if_pos e]; exact ⟨c, hc, by simp⟩
    · rw [if_neg e]; exact ⟨c1, hc1, List.mem_append_left _ h1⟩
  · by_cases e : high < x
    · rw [if_pos e]; exact ⟨c, hc, by simp⟩
    · rw [if_neg e]; exact ⟨d, hd, List.mem_append_left _ h2⟩
  · rcases List.mem_append.1 hp with hp | hp
    · have := h3 p hp h0
      split <;> split <;> omega
    · rw [List.mem_singleton.1 hp]
      show (if x < low then x else low) ≤ x ∧ x ≤ (if high < x then x else high)
      split <;> split <;> omega
end Go.Proofs.Ytoaiblhlpdaeoaa
/- Maps of terms as values: products, sums, polynomials of them; slices of maps. -/
namespace Go.Proofs.Ytoaiblhlpdaeoaa
set_option linter.unusedVariables false
set_option linter.unusedSimpArgs false
open Go.RowKit

/-- Block b is a map of terms that reads as x, with keys within E. -/
def TV (w : World) (b : Nat) (x : LP) (E : Nat) : Prop := ∃ T, MapI w b T ∧ LP.mk T = x ∧ ∀ p ∈ T, p.1.natAbs ≤ E
theorem TV.lt {w : World} {b : Nat} {x : LP} {E : Nat} (h : TV w b x E) : b < w.heap.size := by obtain ⟨T, h, _⟩ := h; exact h.lt
theorem TV.mono {w : World} {b : Nat} {x : LP} {E E' : Nat} (h : TV w b x E) (he : E ≤ E') : TV w b x E' := by
  obtain ⟨T, h1, h2, h3⟩ := h; exact ⟨T, h1, h2, fun p hp => Nat.le_trans (h3 p hp) he⟩
theorem TV.same {w w' : World} {b : Nat} {x : LP} {E : Nat} (h : TV w b x E) (hb : w'.heap[b]? = w.heap[b]?) : TV w' b x E := by
  obtain ⟨T, h1, h2, h3⟩ := h
  refine ⟨T, ⟨?_, h1.nodup⟩, h2, h3⟩
  obtain ⟨D, ⟨es, clock, hbl, r1⟩, r⟩ := h1.dict.own
  exact ⟨⟨D, ⟨es, clock, hb.trans hbl, r1⟩, r⟩⟩
theorem TV.below {w w' : World} {b : Nat} {x : LP} {E : Nat} (h : TV w b x E) (hb : Below w.heap.size w w') : TV w' b x E := h.same (hb.block b h.lt)
/-- A new map that reads as x. -/
def GivesV (w : World) (x : LP) (E : Nat) (e : Ending) (w' : World) : Prop := ∃ b, e = .returned (.map (some b)) ∧ w.heap.size ≤ b ∧ TV w' b x E ∧ Below w.heap.size w w'
theorem GivesT.v {w : World} {x : LP} {E : Nat} {e : Ending} {w' : World} (h : GivesT w x E e w') : GivesV w x E e w' := by
  obtain ⟨b, o, h1, h2, h3, h4, h5, h6⟩ := h
  exact ⟨b, h1, h2, ⟨o, h3, h4, h5⟩, h6⟩
end Go.Proofs.Ytoaiblhlpdaeoaa
/- slices.Clone of a slice of rows of polynomials. -/
namespace Go.Proofs.Ytoaiblhlpdaeoaa
set_option linter.unusedVariables false
set_option linter.unusedSimpArgs false
open Go.RowKit

/-- The values are slices that read as the rows. -/
structure RowsP (w : World) (vs : List Value) (xss : List (List Po)) : Prop where
  len : vs.length = xss.length
  row : ∀ j, j < xss.length → ∃ B m d, vs[j]? = some (.slice B m d) ∧ SPo w B m d (xss.getD j [])
theorem RowsP.below {w w' : World} {vs : List Value} {xss : List (List Po)} (h : RowsP w vs xss) (hb : Below w.heap.size w w') : RowsP w' vs xss := ⟨h.len, fun j hj => by
  obtain ⟨B, m, d, h1, h2⟩ := h.row j hj
  exact ⟨B, m, d, h1, h2.below hb⟩⟩
theorem RowsP.set_ {w : World} {vs : List Value} {xss : List (List Po)} {j : Nat} {B : Option Addr} {m d : Nat} {r : List Po} (h : RowsP w vs xss) (hs : SPo w B m d r) : RowsP w (vs.set j (.slice B m d)) (xss.set j r) := by
  refine ⟨by simp [h.len], fun i hi => ?_⟩
  rw [List.length_set] at hi
  by_cases e : j = i
  · subst e
    refine ⟨B, m, d, by rw [List.getElem?_set_self (by rw [h.len]; exact hi)], ?_⟩
    have : (xss.set j r).getD j [] = r := by simp [List.getD, List.getElem?_set_self hi]
    rw [this]
    exact hs
  · obtain ⟨B', m', d', h1, h2⟩ := h.row i hi
    refine ⟨B', m', d', by rw [List.getElem?_set_ne e]; exact h1, ?_⟩
    have : (xss.set j r).getD i [] = xss.getD i [] := by simp [List.getD, List.getElem?_set_ne e]
    rw [this]
    exact h2
end Go.Proofs.Ytoaiblhlpdaeoaa
/- Package braid: identity; the matrix as the call builds it. -/
namespace Go.Proofs.Ytoaiblhlpdaeoaa
set_option linter.unusedVariables false
set_option linter.unusedSimpArgs false
open Go.RowKit

theorem RowB.grown {w w' : World} {g g' n : Nat} {K : Nat → Prop} {X : Nat → LP} (h : RowB w g n K X) (hg : w.grownBy w' (some g')) (hne : g' ≠ g) (hK : ∀ b, K b → b ≠ g') : RowB w' g n K X :=
  ((h.mono (K' := fun b => b < w.heap.size ∧ K b) fun b hl hb => ⟨hl, hb⟩).keep (fun b hb => by
    rcases hb with rfl | ⟨hl, hb⟩
    · exact hg.block b h.lt (fun e => hne (by injection e with e; exact e.symm))
    · exact hg.block b hl (fun e => hK b hb (by injection e))) hg.size).mono fun b _ hb => hb.2
/-- None of the blocks of the matrix. -/
def FreB (go : Nat) (gr : Nat → Nat) (k : Nat) (b : Nat) : Prop := b ≠ go ∧ ∀ i, i < k → gr i ≠ b
/-- The first k rows of a matrix. -/
structure MatB (w : World) (base go n : Nat) (gr : Nat → Nat) (k : Nat) (X : Mtx LP) : Prop where
  blk : ∃ cs, Blk w go 58 cs
  out : ∀ i, i < k → w.cell? ⟨go, i, none⟩ = some (.slice (some ⟨gr i, 0, none⟩) n n)
  row : ∀ i, i < k → RowB w (gr i) n (FreB go gr k) (X i)
  ne : ∀ i, i < k → gr i ≠ go
  inj : ∀ i j, i < k → j < k → gr i = gr j → i = j
  base_le : base ≤ go ∧ ∀ i, i < k → base ≤ gr i
theorem MatB.lt {w : World} {base go n : Nat} {gr : Nat → Nat} {k : Nat} {X : Mtx LP} (h : MatB w base go n gr k X) : go < w.heap.size := by
  obtain ⟨cs, hc⟩ := h.blk
  exact hc.lt
/-- A row has changed. -/
theorem MatB.chg {w w' : World} {base go n : Nat} {gr : Nat → Nat} {k : Nat} {X Y : Mtx LP} (h : MatB w base go n gr k X) {r : Nat} (hr : r < k) (hg : w.grownBy w' (some (gr r))) (hrow : RowB w' (gr r) n (FreB go gr k) (Y r)) (hY : ∀ i, i < k → i ≠ r → ∀ c, c < n → X i c = Y i c) : MatB w' base go n gr k Y := by
  have hgo : w'.heap[go]? = w.heap[go]? := hg.block go h.lt (fun e => h.ne r hr (by injection e with e; exact e.symm))
  refine ⟨?_, fun i hi => ?_, fun i hi => ?_, h.ne, h.inj, h.base_le⟩
  · obtain ⟨cs, hc⟩ := h.blk
    exact ⟨cs, hgo.trans hc⟩
  · rw [← h.out i hi]
    exact World.cell?_of_block (w := w) (a := ⟨go, i, none⟩) hgo
  · by_cases e : i = r
    · subst e; exact hrow
    · exact ((h.row i hi).grown hg (fun e2 => e (h.inj i r hi hr e2.symm)) (fun b hb e2 => hb.2 r hr e2.symm)).congr (hY i hi e)
theorem MatB.below {w w' : World} {base go n : Nat} {gr : Nat → Nat} {k : Nat} {X : Mtx LP} (h : MatB w base go n gr k X) (hb : Below w.heap.size w w') : MatB w' base go n gr k X := by
  refine ⟨?_, fun i hi => ?_, fun i hi => (h.row i hi).below hb, h.ne, h.inj, h.base_le⟩
  · obtain ⟨cs, hc⟩ := h.blk
    exact ⟨cs, hc.below hb hc.lt⟩
  · rw [← h.out i hi]
    exact hb.cell (p := ⟨go, i, none⟩) h.lt
theorem MatB.congr {w : World} {base go n : Nat} {gr : Nat → Nat} {k : Nat} {X Y : Mtx LP} (h : MatB w base go n gr k X) (hY : ∀ i, i < k → ∀ c, c < n → X i c = Y i c) : MatB w base go n gr k Y :=
  ⟨h.blk, h.out, fun i hi => (h.row i hi).congr (hY i hi), h.ne, h.inj, h.base_le⟩
/-- A new row of zeros. -/
theorem RowB.zero {w : World} {base g n : Nat} {K : Nat → Prop} (h : w.ownsRow base 54 2 (.slice (some ⟨g, 0, none⟩) n n) n (madeCells #[.int .i64 0, .slice none 0 0] (n * 2)).toList) (hn : n ≤ 1000) : RowB w g n K (fun _ => 0) := by
  have ho : OwnG 54 2 w base (some ⟨g, 0, none⟩) n n (madeCells #[.int .i64 0, .slice none 0 0] (n * 2)).toList := ⟨h, by omega⟩
  obtain ⟨cs, _, hc⟩ := ho.cells g rfl
  refine ⟨⟨cs, hc⟩, fun j hj => ⟨none, 0, 0, ?_, ?_, ?_⟩⟩
  · show w.cell? _ = some (.int .i64 (LP.canon 0).1)
    rw [ho.cellAt (by omega), canon_zero, Array.getElem?_toList]
    unfold madeCells
    simp [show j * 2 < n * 2 by omega]
  · rw [ho.cellAt (by omega), Array.getElem?_toList]
    unfold madeCells
    simp [show j * 2 + 1 < n * 2 by omega]
  · show SLK K w none 0 0 (LP.canon 0).2
    rw [canon_zero]
    exact ⟨SL.nil_ _, fun h0 => absurd h0 (by omega)⟩
end Go.Proofs.Ytoaiblhlpdaeoaa
/- Package laurent: trimmed. -/
namespace Go.Proofs.Ytoaiblhlpdaeoaa
set_option linter.unusedVariables false
set_option linter.unusedSimpArgs false
open Go.RowKit

/-- Both lie in the same block. -/
def SameBlk (A B : Option Addr) : Prop := ∃ ad ad', A = some ad ∧ B = some ad' ∧ ad'.block = ad.block
theorem SameBlk.new {w : World} {A B : Option Addr} {n m : Nat} (h : 0 < m → SameBlk A B) (hn : 0 < m → 0 < n) (hA : NewA w A n) : NewA w B m := fun hm ad e => by
  obtain ⟨a, b, e1, e2, e3⟩ := h hm
  rw [e] at e2
  injection e2 with e2
  rw [e2, e3]
  exact hA (hn hm) a e1

end Go.Proofs.Ytoaiblhlpdaeoaa
/- Package braid: identity. -/
namespace Go.Proofs.Ytoaiblhlpdaeoaa
set_option linter.unusedVariables false
set_option linter.unusedSimpArgs false
open Go.RowKit

theorem MatB.start {w : World} {base go n : Nat} {X : Mtx LP} {cs : Array Value} (h : Blk w go 58 cs) (hb : base ≤ go) : MatB w base go n (fun _ => 0) 0 X :=
  ⟨⟨_, h⟩, fun i hi => absurd hi (by omega), fun i hi => absurd hi (by omega), fun i hi => absurd hi (by omega), fun i j hi => absurd hi (by omega), hb, fun i hi => absurd hi (by omega)⟩
/-- One row more. -/
theorem MatB.more {w w' : World} {base go n : Nat} {gr : Nat → Nat} {k : Nat} {X : Mtx LP} {v : Value} (h : MatB w base go n gr k X) {g : Nat} (hb : Below w.heap.size w w') (hg : w.heap.size ≤ g) (hbase : base ≤ w.heap.size) (hc : w.cell? ⟨go, k, none⟩ = some v) (hrow : ∀ K, RowB w' g n K (X k)) :
    MatB (w'.setCell ⟨go, k, none⟩ (.slice (some ⟨g, 0, none⟩) n n)) base go n (fun i => if i = k then g else gr i) (k + 1) X := by
  have hlt := h.lt
  have hc' : w'.cell? ⟨go, k, none⟩ = some v := (hb.cell (p := ⟨go, k, none⟩) hlt).trans hc
  have hne : ∀ i, i < k → (if i = k then g else gr i) = gr i := fun i hi => if_neg (by omega)
  have hch : w'.grownBy (w'.setCell ⟨go, k, none⟩ (.slice (some ⟨g, 0, none⟩) n n)) (some go) := chg_set
  have hgl : ∀ i, i < k → gr i < w.heap.size := fun i hi => (h.row i hi).lt
  refine ⟨?_, fun i hi => ?_, fun i hi => ?_, fun i hi => ?_, fun i j hi hj e => ?_, h.base_le.1, fun i hi => ?_⟩
  · obtain ⟨cs, hcs⟩ := (h.below hb).blk
    exact ⟨_, hcs.set_ k _⟩
  · by_cases e : i = k
    · subst e
      show _ = some (Value.slice (some ⟨if i = i then g else gr i, 0, none⟩) n n)
      rw [if_pos rfl]
      exact World.cell?_setCell_same w' _ _ hc'
    · show _ = some (Value.slice (some ⟨if i = k then g else gr i, 0, none⟩) n n)
      rw [if_neg e, World.cell?_setCell_other w' _ _ _ (by intro h2; simp only [Addr.mk.injEq] at h2; omega)]
      exact (h.below hb).out i (by omega)
  · show RowB _ (if i = k then g else gr i) n _ (X i)
    have hF : ∀ b, FreB go (fun i => if i = k then g else gr i) (k + 1) b → b ≠ go := fun b hb => hb.1
    by_cases e : i = k
    · subst e
      rw [if_pos rfl]
      exact (hrow _).grown hch (by omega) hF
    · rw [if_neg e]
      have h1 := (h.row i (by omega)).mono (K' := FreB go (fun i => if i = k then g else gr i) (k + 1)) fun b hbl hf => ⟨hf.1, fun j hj => by
        show (if j = k then g else gr j) ≠ b
        split
        · omega
        · exact hf.2 j (by omega)⟩
      exact (h1.below hb).grown hch (fun e2 => h.ne i (by omega) e2.symm) hF
  · show (if i = k then g else gr i) ≠ go
    split
    · omega
    · exact h.ne i (by omega)
  · replace e : (if i = k then g else gr i) = (if j = k then g else gr j) := e
    by_cases e1 : i = k
    · by_cases e2 : j = k
      · omega
      · rw [if_pos e1, if_neg e2] at e
        have := hgl j (by omega)
        omega
    · by_cases e2 : j = k
      · rw [if_neg e1, if_pos e2] at e
        have := hgl i (by omega)
        omega
      · rw [if_neg e1, if_neg e2] at e
        exact h.inj i j (by omega) (by omega) e
  · show base ≤ (if i = k then g else gr i)
    split
    · omega
    · exact h.base_le.2 i (by omega)
end Go.Proofs.Ytoaiblhlpdaeoaa
/- timbref1.Written. -/
namespace Go.Proofs.Ytoaiblhlpdaeoaa
set_option linter.unusedVariables false
set_option linter.unusedSimpArgs false
open Go.RowKit

theorem wrd_splW (p : List Nat) : wrd p = splW (p.length * p.length) p := rfl
theorem wrd_len (p : List Nat) : (wrd p).length ≤ p.length * p.length := by rw [wrd_splW]; exact splW_le
theorem half_len2 : (halfW 2).length = 1 ∧ (halfW 3).length = 3 ∧ (halfW 4).length = 6 ∧ (halfW 5).length = 10 ∧ (halfW 6).length = 15 := by decide +kernel
theorem half_len {n : Nat} (h1 : 2 ≤ n) (h6 : n ≤ 6) : 0 < (halfW n).length ∧ (halfW n).length ≤ 15 ∧ 2 * (halfW n).length = n * (n - 1) := by
  obtain ⟨a, b, c, d, e⟩ := half_len2
  have hn : n = 2 ∨ n = 3 ∨ n = 4 ∨ n = 5 ∨ n = 6 := by omega
  rcases hn with rfl | rfl | rfl | rfl | rfl <;> omega
set_option maxRecDepth 100000 in
set_option maxHeartbeats 2000000 in
theorem repeat_zero (A : Option Addr) (l c : Nat) (xs : List Int) (w : World) (ha : IL w A l xs) (hl6 : l ≤ 1000) :
    Calls Try.prog 60 #[.slice A l c, .int .i64 0] w (GivesOwn w []) := by
  have HM : Hid (∀ w, Calls Try.prog 101 #[.int .u64 l, .int .u64 0] w fun e w' => e = .returned (.tuple #[.int .u64 0, .int .u64 0]) ∧ w = w') := fun w => by
    refine (bits_Mul l 0 (by omega) (by omega) w).mono ?_
    rintro e w' ⟨rfl, rfl⟩
    rw [Nat.mul_zero]
    exact ⟨rfl, rfl⟩
  obtain ⟨i0, hi0, hz0, hz1, hz2⟩ := info_parts int_info
  have HI0 := hide hi0
  have HZ0 := hide hz0
  have HZ1 := hide hz1
  have HI3 : Hid ((Try.prog.info? 3).map (·.size) = some 1) := by
    rw [HI0.out]
    exact congrArg some HZ1.out
  have h48 : i0.bytes * 0 ≤ 281474976710656 := by omega
  clear ha hi0 hz0 hz1 hz2
  go_enter Try.func60, Try.ntmps60
  have HMR : Hid ((w.alloc (.cells (madeCells #[.int .i64 0] 0) 3)).heap[w.heap.size]? = some (.cells (([] : List Value)).toArray 3 (0, 0))) := hide (by
    have h := heap_alloc_new w (.cells (madeCells #[.int .i64 0] 0) 3)
    have e0 : madeCells #[Value.int .i64 0] 0 = #[] := by unfold madeCells; simp
    rw [e0] at h ⊢
    exact h)
  have HB0 := hide ((Below.refl w.heap.size w).alloc (Nat.le_refl _) (.cells (madeCells #[.int .i64 0] 0) 3))
  go_wp2_with (first | (go_at_call 101; refine (HM.out _).mono ?_; rintro e w' ⟨rfl, rfl⟩) | (at_make; refine wpList_make_row _ rfl _ _ 22 rfl 3 i0 (.int .i64 0) Try.underlying22 HI0.out HZ0.out HZ1.out rfl .i64 .i64 0 rfl rfl h48 (by omega) ?_) | ((with_reducible show wpList _ _ _ (Oper.mk _ (.call { callee := .builtin .copy, args := _, argTypes := _ }) _ _ _ _ :: _) _ _); go_loud (refine wpList_copy_splice rfl (.tmp 31) (.tmp 32) 22 22 rfl 3 Try.underlying22 HI3.out (some ⟨w.heap.size, 0, none⟩) A 0 0 l c rfl rfl w.heap.size 0 [] 3 HMR.out [] (by simp) (fun h => absurd h (by simp)) (by simp) (fun v hv => by cases hv) w.heap.size w HB0.out (Nat.le_refl _) ?_; intro w2 hg2 hb2)))
  have HO : Hid (OwnI w2 w.heap.size (some ⟨w.heap.size, 0, none⟩) 0 0 []) := hide (OwnI.ofRow (Nat.le_refl _) (xs := []) (by have h := hg2.out; rw [show splice [] 0 [] = ([] : List Value) from rfl] at h; exact h) rfl (by omega))
  have HB2 := hide hb2
  clear hg2 hb2 HB0 HMR
  go_loop [8] (fun iv => iv = .int .i64 0) (fun iv => 0)
  case atStart => rfl
  case round =>
    obtain rfl := hrel
    go_wp2_with fail
    go_ret
    exact ⟨_, _, _, rfl, HO.out, HB2.out⟩

set_option maxRecDepth 100000 in
set_option maxHeartbeats 2000000 in
theorem repeat_all (A : Option Addr) (l c k : Nat) (xs : List Int) (w : World) (ha : IL w A l xs) (hlp : 0 < l) (hl6 : l ≤ 1000) (hs : k * l ≤ 1000000) :
    Calls Try.prog 60 #[.slice A l c, .int .i64 k] w (GivesOwn w (rep xs k)) := by
  by_cases hk : k = 0
  · subst hk
    rw [rep_zero]
    exact repeat_zero A l c xs w ha hl6
  · exact repeat_any A l c k xs w ha hlp (by omega) hs
theorem facW_take {l : List (List Nat)} {j : Nat} (hj : j < l.length) : facW (l.take (j + 1)) = facW (l.take j) ++ wrd (l.getD j []) := by
  unfold facW
  rw [List.take_succ_eq_append_getElem hj, List.flatMap_append, show l.getD j [] = l[j] by simp [List.getD, hj]]
  simp
theorem facW_len {n : Nat} : ∀ {l : List (List Nat)}, (∀ p ∈ l, p.length = n) → n ≤ 6 → (facW l).length ≤ 36 * l.length
  | [], _, _ => by simp [facW]
  | p :: l, h, h6 => by
    have h1 := wrd_len p
    have h2 := facW_len (l := l) (fun q hq => h q (by simp [hq])) h6
    have h3 := h p (by simp)
    rw [h3] at h1
    have h4 : n * n ≤ 36 := by have := Nat.mul_le_mul h6 h6; omega
    show (wrd p ++ facW l).length ≤ _
    rw [List.length_append, List.length_cons]
    omega

end Go.Proofs.Ytoaiblhlpdaeoaa
/- Package garside: factorOf, isTight, wordOf. -/
namespace Go.Proofs.Ytoaiblhlpdaeoaa
set_option linter.unusedVariables false
set_option linter.unusedSimpArgs false
open Go.RowKit

theorem inv_inv {a : List Nat} (h : isP a) : inv (inv a) = a := by
  refine Gar.list_ext (by rw [inv_length, inv_length]) fun s hs => ?_
  rw [inv_length, inv_length] at hs
  have h1 := inv_getD_self (inv_isP h) (j := a.getD s 0) (by rw [inv_length]; exact h.lt hs)
  rw [inv_getD_self h hs] at h1
  exact h1
theorem bfault_one {N : Nat} {x : Int} (h1 : 1 ≤ N) (h6 : N ≤ 6) (hx : Gar.okl N x) : bfault (N : Int) [x] = 0 :=
  bfault_ok (by omega) (by omega) (by simp) fun y hy => by
    rw [List.mem_singleton] at hy
    subst hy
    unfold Gar.okl at hx
    omega

set_option maxRecDepth 100000 in
set_option maxHeartbeats 4000000 in
theorem gfactor_any (N : Nat) (x : Int) (w : World) (h1 : 1 ≤ N) (h6 : N ≤ 6) (hx : Gar.okl N x) :
    Calls Try.prog 94 #[.int .i64 N, .int .i64 x] w (GivesOwn w (zs (facL N x))) := by
  have HF := hide (bfault_one h1 h6 hx)
  have HV : Hid (permE (N : Int) [x] = zs (endsL N [x])) := hide (by unfold permE; rw [HF.out, if_pos rfl, Int.toNat_natCast])
  obtain ⟨i, hi⟩ : ∃ i, x.natAbs = i + 1 := ⟨x.natAbs - 1, by unfold Gar.okl at hx; omega⟩
  obtain ⟨p1, p2, _⟩ := endsL_one hx hi
  have HP1 := hide p1
  have HP2 := hide p2
  have HX := hide hx
  clear hx hi p1 p2
  by_cases hn : x < 0
  · have HE : Hid (facL N x = comp (Gar.fullL N) (endsL N [x])) := hide (by unfold facL; rw [if_neg (by omega)])
    go_enter Try.func94, Try.ntmps94
    go_wp2_with fail
    have hl1 := SL.lit w [x] (by simp) rfl rfl
    have HB0 := hide ((Below.refl w.heap.size w).alloc (Nat.le_refl _) (.cells #[.int .i64 x] 3))
    refine (bperm_own N _ 1 1 [x] _ hl1 (wfI (by omega))).mono ?_
    rintro e w1 ⟨A1, n1, c1, rfl, hs, hb, ho⟩
    have HO := hide (ho HF.out)
    rw [HV.out] at HO
    rw [HF.out]
    have HB1 := hide (HB0.out.trans (hb.mono HB0.out.size))
    clear hs hb ho hl1 HB0
    go_wp2_with fail
    refine (ghalf_any N w1 (by omega)).mono ?_
    rintro e w2 ⟨F, fn, fc, rfl, hf, hb2⟩
    have HC := hide (compose_ok F A1 fn n1 fc c1 (Gar.fullL N) (endsL N [x]) w2 hf.il (HO.out.below hb2).il (full_isP N).1 HP1.out (by rw [(full_isP N).2, HP2.out]) (by rw [(full_isP N).2]; omega))
    have HB2 := hide (HB1.out.trans (hb2.mono HB1.out.size))
    clear hf hb2
    go_wp2_with fail
    refine HC.out.mono ?_
    rintro e w3 ⟨R, rn, rc, rfl, hr, hb3⟩
    have HR := hide (hr.mono HB2.out.size)
    have HB3 := hide (HB2.out.trans (hb3.mono HB2.out.size))
    clear hr hb3 HC
    go_wp2_with fail
    go_ret
    rw [HE.out]
    exact ⟨_, _, _, rfl, HR.out, HB3.out⟩
  · have hx0 : 0 < x := by have := HX.out; unfold Gar.okl at this; omega
    have HE : Hid (facL N x = endsL N [x]) := hide (by unfold facL; rw [if_pos hx0])
    clear hx0
    go_enter Try.func94, Try.ntmps94
    go_wp2_with fail
    have hl1 := SL.lit w [x] (by simp) rfl rfl
    have HB0 := hide ((Below.refl w.heap.size w).alloc (Nat.le_refl _) (.cells #[.int .i64 x] 3))
    refine (bperm_own N _ 1 1 [x] _ hl1 (wfI (by omega))).mono ?_
    rintro e w1 ⟨A1, n1, c1, rfl, hs, hb, ho⟩
    have HO := hide ((ho HF.out).mono HB0.out.size)
    rw [HV.out] at HO
    rw [HF.out]
    have HB1 := hide (HB0.out.trans (hb.mono HB0.out.size))
    clear hs hb ho hl1 HB0
    go_wp2_with fail
    go_ret
    rw [HE.out]
    exact ⟨_, _, _, rfl, HO.out, HB1.out⟩

set_option maxRecDepth 100000 in
set_option maxHeartbeats 4000000 in
theorem gisTight_any (A B : Option Addr) (n ca cb : Nat) (a b : List Nat) (w : World) (ha : SL w A n ca (zs a)) (hb : SL w B n cb (zs b)) (pa : isP a) (hl : b.length = n) (h9 : n ≤ 9) :
    Calls Try.prog 64 #[.slice A n ca, .slice B n cb] w fun e w' => e = .returned (.bool (Gar.tightB a b (inv a))) ∧ Below w.heap.size w w' := by
  have hla : a.length = n := by have := ha.il.len; rwa [zs_length] at this
  have HI := hide (inverse_ok A n ca a w ha.il pa (by omega))
  have HB := hide hb
  have HL := hide hl
  have HLI : Hid ((inv a).length = n) := hide (by rw [inv_length]; exact hla)
  have HV : Hid (decide (dsI (loose (inv a) b) < 0) = Gar.tightB a b (inv a)) := hide (by
    rw [← loose_tightB (n := n) hla hl]
    cases loose (inv a) b with
    | none => rfl
    | some i => show decide (((i : Nat) : Int) < 0) = false; rw [decide_eq_false (by omega)])
  clear ha hb pa hl hla
  go_enter Try.func64, Try.ntmps64
  go_wp2_with fail
  refine HI.out.mono ?_
  rintro e w1 ⟨C, m, cc, rfl, ho, hbw⟩
  have hm : m = n := by have := ho.len; rw [zs_length, HLI.out] at this; exact this.symm
  subst hm
  have HG := hide (gloose_any C B m cc cb (inv a) b w1 ho.il (HB.out.below hbw).il HL.out)
  have HW := hide hbw
  clear ho hbw HI
  go_wp2_with fail
  refine HG.out.mono ?_
  rintro e w2 ⟨rfl, hb2⟩
  have HW2 := hide (HW.out.trans (hb2.mono HW.out.size))
  generalize dsI (loose (inv a) b) = d at *
  clear hb2
  go_wp2_with fail
  go_ret
  exact ⟨by rw [← HV.out]; rfl, HW2.out⟩

/-- An own row is not touched by what changes another block. -/
theorem OwnI.far {w w' : World} {base n c : Nat} {D : Option Addr} {xs : List Int} {row : Option Nat} (h : OwnI w base D n c xs) (hg : w.grownBy w' row) (hne : ∀ ad, D = some ad → row ≠ some ad.block) : OwnI w' base D n c xs := by
  refine ⟨⟨h.own.1, ?_⟩, h.small⟩
  rcases h.own.2 with h2 | ⟨g', cap, cur, hv, hg', hh, r⟩
  · exact .inl h2
  · have e : D = some ⟨g', 0, none⟩ := by injection hv
    exact .inr ⟨g', cap, cur, hv, hg', (hg.block g' (Blk.lt (w := w) (t := 3) (cs := cur) hh) (fun e2 => hne _ e e2.symm)).trans hh, r⟩
theorem OwnI.inBase {w : World} {base n c g : Nat} {xs : List Int} (h : OwnI w base (some ⟨g, 0, none⟩) n c xs) : base ≤ g ∧ g < w.heap.size := by
  rcases h.own.2 with ⟨hv, _⟩ | ⟨g', cap, cur, hv, hg', hh, r⟩
  · simp at hv
  · simp only [Value.slice.injEq, Option.some.injEq, Addr.mk.injEq, and_true, true_and] at hv
    obtain ⟨rfl, _⟩ := hv
    exact ⟨hg', Blk.lt (w := w) (t := 3) (cs := cur) hh⟩
def slcN : Value → Nat
  | .slice _ n _ => n
  | _ => 0
set_option maxRecDepth 100000 in
set_option maxHeartbeats 8000000 in
theorem gword_any (A : Option Addr) (n c : Nat) (p : List Nat) (w : World) (ha : SL w A n c (zs p)) (hp : isP p) (hl : p.length = n) (h1 : 1 ≤ n) (h6 : n ≤ 6) :
    Calls Try.prog 61 #[.slice A n c] w (GivesOwn w (wrd p)) := by
  obtain ⟨i0, hi0, hz0, hz1, hz2⟩ := info_parts int_info
  have HI0 := hide hi0
  have HZ0 := hide hz0
  have HZ1 := hide hz1
  have HZ2 := hide hz2
  have hn36 : n * n ≤ 36 := by have := Nat.mul_le_mul h6 h6; omega
  have HC := hide (clone_any A n c (zs p) w ha.il (fun h => by have := ha.nil h; omega))
  have HW0 : Hid (wrd p = [] ++ splW (n * n) p) := hide (by rw [wrd_splW, hl]; rfl)
  have HI0' : Hid (Gar.inv (fun s => p.getD s 0) n ≤ n * n) := hide (by have := Gar.inv_max (n := n) (fun s => p.getD s 0); omega)
  have HP := hide hp
  have HL := hide hl
  clear ha hp hl hi0 hz0 hz1 hz2
  generalize hnn : n * n = F at *
  clear hnn
  go_enter Try.func61, Try.ntmps61
  go_wp2_with fail
  refine HC.out.mono ?_
  rintro e w1 ⟨E, en, ec, rfl, hown, hb1⟩
  have hen : en = n := by have := hown.len; rw [zs_length, HL.out] at this; exact this.symm
  subst hen
  obtain ⟨g, rfl, hg, _⟩ := hown.form (by omega)
  have HD := hide (gdescent_any (some ⟨g, 0, none⟩) en ec p w1 hown.il HL.out)
  have HO := hide hown
  have HB1 := hide hb1
  clear hown hb1 HC
  go_wp2_with fail
  refine HD.out.mono ?_
  rintro e w2 ⟨rfl, hb2⟩
  have HO2 := hide (HO.out.below hb2)
  have HB2 := hide (HB1.out.trans (hb2.mono HB1.out.size))
  clear hb2 HO HB1 HD
  go_wp2_with fail
  go_loopw [4, 5] (fun ov iv wr => ∃ (q : List Nat) (f : Nat) (D : Option Addr) (dn dc : Nat) (u : List Int), ov = .slice D dn dc ∧ iv = .int .i64 (dsI (Gar.firstD q)) ∧ dn + f = F ∧ Hid (isP q ∧ q.length = en ∧ Gar.inv (fun s => q.getD s 0) en ≤ f) ∧ Hid (wrd p = u ++ splW f q) ∧ Hid (OwnI wr w.heap.size (some ⟨g, 0, none⟩) en ec (zs q)) ∧ Hid (OwnI wr w.heap.size D dn dc u) ∧ Hid (∀ ad, D = some ad → ad.block ≠ g) ∧ Hid (Below w.heap.size w wr)) (fun ov iv _ => F - slcN ov)
  case atStart => exact ⟨p, F, none, 0, 0, [], rfl, rfl, by omega, hide ⟨HP.out, HL.out, HI0'.out⟩, HW0, HO2, hide (OwnI.nil_ _ _), hide (fun ad h => by cases h), HB2⟩
  case round =>
    clear HO2 HB2 HW0 HI0' HP HL
    obtain ⟨q, f, D, dn, dc, u, rfl, rfl, hdf, HQ, HU, HO, HD, HNE, HB⟩ := hrel
    obtain ⟨qp, ql, qi⟩ := HQ.out
    cases hfd : Gar.firstD q with
    | none =>
      have HE : Hid (wrd p = u) := hide (by
        rw [HU.out]
        unfold splW
        cases f with
        | zero => simp [Gar.spl]
        | succ f => unfold Gar.spl; rw [hfd]; simp)
      have hc : decide ((0 : Int) ≤ -1) = false := by decide
      clear HU HQ qp ql qi hfd
      have hds : dsI none = -1 := rfl
      rw [hds]
      go_wp2_with fail
      go_ret
      rw [HE.out]
      exact ⟨_, _, _, rfl, HD.out, HB.out⟩
    | some i =>
      obtain ⟨hi, hlt⟩ := Gar.firstD_some hfd
      rw [ql] at hi
      have hinv := Gar.inv_sw' (f := fun s => q.getD s 0) (i := i) (n := en) hi
      rw [if_pos hlt, if_neg (by omega)] at hinv
      obtain ⟨f', rfl⟩ : ∃ f', f = f' + 1 := ⟨f - 1, by omega⟩
      have HSP := hide (splW_succ hfd f')
      have HQ2 : Hid (isP (Gar.swapL q i) ∧ (Gar.swapL q i).length = en ∧ Gar.inv (fun s => (Gar.swapL q i).getD s 0) en ≤ f') := hide ⟨Gar.swapL_isP qp (by omega), by rw [Gar.swapL_length]; exact ql, by
        have h2 : Gar.inv (fun s => (Gar.swapL q i).getD s 0) en = Gar.inv (fun s => q.getD (Gar.sw i s) 0) en := Gar.inv_congr fun s _ => Gar.swapL_getD (by omega)
        omega⟩
      have HU2 : Hid (wrd p = (u ++ [(i : Int) + 1]) ++ splW f' (Gar.swapL q i)) := hide (by rw [HU.out, HSP.out]; simp)
      have hds : dsI (some i) = (i : Int) := rfl
      have hw1 : IntKind.i64.wrap ((i : Int) + 1) = (i : Int) + 1 := by rw [IntKind.wrap_i64]; omega
      have hdn : dn ≤ 36 := by omega
      rw [hds]
      clear HU HQ qp ql qi hfd hinv HSP hlt hds
      have hsz := HB.out.size
      have HLI := hide (OwnI.lit wr [(i : Int) + 1] (base := wr.heap.size) (Nat.le_refl _) (by simp) rfl rfl rfl)
      have HAL := hide ((Below.refl wr.heap.size wr).alloc (Nat.le_refl _) (.cells #[.int .i64 ((i : Int) + 1)] 3))
      have HD2 := hide (HD.out.below HAL.out)
      have HO2 := hide (HO.out.below HAL.out)
      have HB2 := hide (HB.out.trans (HAL.out.mono hsz))
      have hsz2 := HB2.out.size
      go_wp2_with (at_builtin; refine wpList_append_int _ rfl (.tmp 14) (.tmp 17) 22 rfl w.heap.size i0 Try.underlying22 HI0.out HZ0.out HZ1.out HZ2.out D dn dc _ rfl HD2.out (some ⟨wr.heap.size, 0, none⟩) 1 1 [(i : Int) + 1] rfl HLI.out.il (by omega) hsz2 ?_; intro A9 c9 w9 happ)
      have HO9 := hide happ.own
      have hb9 : Below w.heap.size w w9 := HB2.out.grown happ.grown hsz2 (fun b hb => (HD2.out.lt b (by rw [ownBlock_len D dn (dn + 1) dc dc]; exact hb)).1)
      have HB9 := hide hb9
      have hgl := HO2.out.inBase
      have HO92 := hide (HO2.out.far happ.grown (fun ad e e2 => by
        injection e with e
        subst e
        cases D with
        | none => cases e2
        | some dd => injection e2 with e2; exact HNE.out dd rfl e2))
      have HNE9 : Hid (∀ ad, A9 = some ad → ad.block ≠ g) := hide (fun ad e => by
        subst e
        rcases happ.lies with e2 | e2
        · cases D with
          | none => cases e2
          | some dd => injection e2 with e2; rw [e2]; exact HNE.out dd rfl
        · injection e2 with e2
          rw [e2]
          omega)
      have HEX := hide (gexch_any w.heap.size g en ec q i w9 HO92.out hi)
      clear happ hb9 hgl HD2 HO2 HB2 hsz2 HLI HAL hsz HO HD HNE HB
      refine HEX.out.mono ?_
      rintro e w10 ⟨rfl, ho10, hg10⟩
      have HD10 := hide (HO9.out.far hg10 (fun ad e e2 => by injection e2 with e2; exact HNE9.out ad e e2.symm))
      have hgb := ho10.inBase.1
      have HB10 := hide (HB9.out.grown hg10 HB9.out.size (fun k e => by injection e with e; subst e; exact hgb))
      have HDS := hide (gdescent_any (some ⟨g, 0, none⟩) en ec (Gar.swapL q i) w10 ho10.il HQ2.out.2.1)
      have HO10 := hide ho10
      clear ho10 hg10 HEX HO92 HO9 HB9
      go_wp2_with fail
      refine HDS.out.mono ?_
      rintro e w11 ⟨rfl, hb11⟩
      have HD11 := hide (HD10.out.below hb11)
      have HO11 := hide (HO10.out.below hb11)
      have HB11 := hide (HB10.out.trans (hb11.mono HB10.out.size))
      clear hb11 HD10 HO10 HB10 HDS
      go_wp2_with fail
      go_roundw
      case rel => exact ⟨_, f', A9, dn + 1, c9, _, rfl, rfl, by omega, HQ2, HU2, HO11, HD11, HNE9, HB11⟩
      case measure => simp [slcN]; omega
end Go.Proofs.Ytoaiblhlpdaeoaa
