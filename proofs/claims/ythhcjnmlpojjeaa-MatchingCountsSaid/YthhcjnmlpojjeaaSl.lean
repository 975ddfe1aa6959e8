/- Slices of integers, and slices of slices of integers, with what a nil slice is. -/
import Derived.Test.YthhcjnmlpojjeaaBase1
import Derived.Test.YthhcjnmlpojjeaaTimes
namespace Go.Proofs.Ythhcjnmlpojjeaa
set_option linter.unusedVariables false
set_option linter.unusedSimpArgs false
open Go.RowKit

/-- A slice that reads as xs. -/
structure SL (w : World) (A : Option Addr) (n c : Nat) (xs : List Int) : Prop where
  il : IL w A n xs
  nil : A = none → n = 0 ∧ c = 0
  cap : n ≤ c
theorem SL.below {w w' : World} {A : Option Addr} {n c : Nat} {xs : List Int} (h : SL w A n c xs) (hb : Below w.heap.size w w') : SL w' A n c xs := ⟨h.il.below hb, h.nil, h.cap⟩
theorem SL.nil_ (w : World) : SL w none 0 0 [] := ⟨IL.nil_ w, fun _ => ⟨rfl, rfl⟩, Nat.le_refl _⟩
theorem OwnI.sl {w : World} {base n c : Nat} {A : Option Addr} {xs : List Int} (h : OwnI w base A n c xs) : SL w A n c xs := ⟨h.il, h.nil, h.cap⟩
theorem SL.lit (w : World) (xs : List Int) (hs : xs.length ≤ 1000) {cs : Array Value} (hc : cs = (xs.map (Value.int .i64)).toArray) {m : Nat} (hm : xs.length = m) : SL (w.alloc (.cells cs 3)) (some ⟨w.heap.size, 0, none⟩) m m xs :=
  ⟨IL.lit w xs (by omega) hc hm, fun h => (by cases h), Nat.le_refl _⟩
theorem SL.inside {w : World} {A : Option Addr} {n c : Nat} {xs : List Int} (h : SL w A n c xs) : 0 < n → ∀ ad, A = some ad → ad.block < w.heap.size := fun hn ad e => by
  obtain ⟨ad2, e2, hl, _⟩ := h.il.mem hn
  rw [e] at e2
  cases e2
  exact hl
/-- A slice of slices that reads as xss. -/
structure SLL (w : World) (A : Option Addr) (n c : Nat) (xss : List (List Int)) : Prop where
  len : xss.length = n
  small : n ≤ 17592186044416
  nil : A = none → n = 0 ∧ c = 0
  cap : n ≤ c
  mem : 0 < n → ∃ ad, A = some ad ∧ ad.block < w.heap.size ∧ ∀ j, j < n → ∃ B m d, w.cell? (ad.add j) = some (.slice B m d) ∧ SL w B m d (xss.getD j [])
theorem SLL.ill {w : World} {A : Option Addr} {n c : Nat} {xss : List (List Int)} (h : SLL w A n c xss) : ILL w A n xss :=
  ⟨h.len, h.small, fun h0 => by
    obtain ⟨ad, e, hl, hc⟩ := h.mem h0
    exact ⟨ad, e, hl, fun j hj => by
      obtain ⟨B, m, d, h1, h2⟩ := hc j hj
      exact ⟨B, m, d, h1, h2.il⟩⟩⟩
theorem SLL.at_ {w : World} {A : Option Addr} {n c k : Nat} {xss : List (List Int)} (h : SLL w A n c xss) (hk : k < n) : ∃ ad B m d, A = some ad ∧ w.cell? (ad.add k) = some (.slice B m d) ∧ SL w B m d (xss.getD k []) := by
  obtain ⟨ad, e, _, hc⟩ := h.mem (by omega)
  obtain ⟨B, m, d, h1, h2⟩ := hc k hk
  exact ⟨ad, B, m, d, e, h1, h2⟩
theorem SLL.below {w w' : World} {A : Option Addr} {n c : Nat} {xss : List (List Int)} (h : SLL w A n c xss) (hb : Below w.heap.size w w') : SLL w' A n c xss :=
  ⟨h.len, h.small, h.nil, h.cap, fun hn => by
    obtain ⟨ad, e, hl, hc⟩ := h.mem hn
    refine ⟨ad, e, Nat.lt_of_lt_of_le hl hb.size, fun j hj => ?_⟩
    obtain ⟨B, m, d, h1, h2⟩ := hc j hj
    exact ⟨B, m, d, (hb.cell (p := ad.add j) (by rw [block_of_add]; exact hl)).trans h1, h2.below hb⟩⟩
theorem SLL.nil_ (w : World) : SLL w none 0 0 [] := ⟨rfl, by omega, fun _ => ⟨rfl, rfl⟩, Nat.le_refl _, fun h => absurd h (by omega)⟩
/-- A literal of slices. -/
theorem SLL.lit {w : World} {vs : List Value} {xss : List (List Int)} (hl : vs.length = xss.length) (hs : xss.length ≤ 1000) (h : ∀ j, j < xss.length → ∃ B m d, vs[j]? = some (.slice B m d) ∧ SL w B m d (xss.getD j [])) {cs : Array Value} (hc : cs = vs.toArray) {m : Nat} (hm : xss.length = m) :
    SLL (w.alloc (.cells cs 22)) (some ⟨w.heap.size, 0, none⟩) m m xss := by
  subst hc
  refine ⟨hm, by omega, fun h => (by cases h), Nat.le_refl _, fun _ => ⟨⟨w.heap.size, 0, none⟩, rfl, by simp, fun j hj => ?_⟩⟩
  obtain ⟨B, n, d, h1, h2⟩ := h j (by omega)
  refine ⟨B, n, d, ?_, h2.below ((Below.refl _ _).alloc (Nat.le_refl _) _)⟩
  rw [show (⟨w.heap.size, 0, none⟩ : Addr).add j = ⟨w.heap.size, j, none⟩ by unfold Addr.add; split <;> simp_all, (Blk.new w 22 vs.toArray).cell j]
  simpa using h1
theorem SLL.of_rows {w : World} {base n c : Nat} {A : Option Addr} {vs : List Value} {xss : List (List Int)} (h : OwnV w base A n c vs) (hr : RowsI w base vs xss) : SLL w A n c xss := by
  have hl := h.len
  have hcap : (A = none → n = 0 ∧ c = 0) ∧ n ≤ c := by
    rcases h.own.2 with ⟨hv, h0⟩ | ⟨g, cap, cur, hv, _, _, hnc, _⟩
    · simp only [Value.slice.injEq] at hv
      exact ⟨fun _ => ⟨hv.2.1, hv.2.2⟩, by omega⟩
    · simp only [Value.slice.injEq, true_and] at hv
      exact ⟨fun e => (by rw [e] at hv; exact absurd hv.1 (by simp)), by omega⟩
  refine ⟨by rw [← hr.len]; exact hl, by have := h.small; omega, hcap.1, hcap.2, fun hn => ?_⟩
  obtain ⟨g, rfl, _⟩ := h.cellAt hn
  refine ⟨⟨g, 0, none⟩, rfl, (h.lt g rfl).2, fun j hj => ?_⟩
  obtain ⟨g', e, hc⟩ := h.cellAt hj
  injection e with e
  injection e with e
  subst e
  obtain ⟨B, m, d, h1, h2⟩ := hr.row j (by omega)
  exact ⟨B, m, d, by rw [show (⟨g, 0, none⟩ : Addr).add j = ⟨g, j, none⟩ by unfold Addr.add; split <;> simp_all, hc, h1], h2.sl⟩
end Go.Proofs.Ythhcjnmlpojjeaa
