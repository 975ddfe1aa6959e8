/- What package laurent's functions are to answer. -/
import Derived.Test.YthhcjnmlpojjeaaBase1
import Derived.Test.YthhcjnmlpojjeaaSl
import Derived.Test.YthhcjnmlpojjeaaEqual
import Derived.Handy
namespace Go.Proofs.Ythhcjnmlpojjeaa
set_option linter.unusedVariables false
set_option linter.unusedSimpArgs false
open Go.RowKit

theorem SL.setCell {w : World} {A : Option Addr} {n c : Nat} {xs : List Int} (h : SL w A n c xs) {b : Nat} (hb : 0 < n → ∀ ad, A = some ad → ad.block ≠ b) (i : Nat) (v : Value) : SL (w.setCell ⟨b, i, none⟩ v) A n c xs :=
  ⟨⟨h.il.len, h.il.small, fun hn => by
    obtain ⟨ad, e, hl, hc⟩ := h.il.mem hn
    refine ⟨ad, e, by simpa using hl, fun j hj => ?_⟩
    rw [← hc j hj]
    exact World.cell?_setCell_other (w := w) (a := ⟨b, i, none⟩) (b := ad.add j) v (by intro e2; exact hb hn ad e (by have := congrArg Addr.block e2; rw [block_of_add] at this; exact this.symm))⟩, h.nil, h.cap⟩
end Go.Proofs.Ythhcjnmlpojjeaa
