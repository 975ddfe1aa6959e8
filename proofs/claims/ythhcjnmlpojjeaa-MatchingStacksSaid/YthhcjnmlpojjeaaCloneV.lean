/- slices.Clone of a slice of rows. -/
import Derived.Test.YthhcjnmlpojjeaaRowsM
import Derived.Test.YthhcjnmlpojjeaaBase1
namespace Go.Proofs.Ythhcjnmlpojjeaa
set_option linter.unusedVariables false
set_option linter.unusedSimpArgs false
open Go.RowKit

/-- The values are slices that read as the rows. -/
structure RowsS (w : World) (vs : List Value) (xss : List (List Int)) : Prop where
  len : vs.length = xss.length
  row : ∀ j, j < xss.length → ∃ B m d, vs[j]? = some (.slice B m d) ∧ SL w B m d (xss.getD j [])
theorem RowsS.below {w w' : World} {vs : List Value} {xss : List (List Int)} (h : RowsS w vs xss) (hb : Below w.heap.size w w') : RowsS w' vs xss := ⟨h.len, fun j hj => by
  obtain ⟨B, m, d, h1, h2⟩ := h.row j hj
  exact ⟨B, m, d, h1, h2.below hb⟩⟩
theorem RowsS.set_ {w : World} {vs : List Value} {xss : List (List Int)} {j : Nat} {B : Option Addr} {m d : Nat} {r : List Int} (h : RowsS w vs xss) (hs : SL w B m d r) : RowsS w (vs.set j (.slice B m d)) (xss.set j r) := by
  refine ⟨by simp [h.len], fun i hi => ?_⟩
  rw [List.length_set] at hi
  by_cases e : j = i
  · subst e
    refine ⟨B, m, d, by rw [List.getElem?_set_self (by rw [h.len]; exact hi)], ?_⟩
    have : (xss.set j r).getD j [] = r := by simp [List.getD, List.getElem?_set_self hi]
    rw [this]
    exact hs
  · obtain ⟨B', m', d', h1, h2⟩ := h.row i hi
    refine ⟨B', m', d', by rw [List.getElem?_set_ne e]; exact h1, ?_⟩
    have : (xss.set j r).getD i [] = xss.getD i [] := by simp [List.getD, List.getElem?_set_ne e]
    rw [this]
    exact h2
theorem OwnV.set_ {w : World} {base g n c : Nat} {vs : List Value} (h : OwnV w base (some ⟨g, 0, none⟩) n c vs) (j : Nat) (u : Value) : OwnV (w.setCell ⟨g, j, none⟩ u) base (some ⟨g, 0, none⟩) n c (vs.set j u) := ⟨(h.own.stored j u).1, h.small⟩
theorem OwnV.frozen {w : World} {base g n c : Nat} {vs : List Value} (h : OwnV w base (some ⟨g, 0, none⟩) n c vs) (j : Nat) : w.frozen? ⟨g, j, none⟩ = false := h.own.frozenAt j

end Go.Proofs.Ythhcjnmlpojjeaa
