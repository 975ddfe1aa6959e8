/- A row stored into a block: what lies elsewhere stays. -/
import Derived.Test.YthhcjnmlpojjeaaPoC
import Derived.Test.YthhcjnmlpojjeaaBase1
import Derived.Laws.EntriesVeiled
namespace Go.Proofs.Ythhcjnmlpojjeaa
set_option linter.unusedVariables false
set_option linter.unusedSimpArgs false
open Go.RowKit

theorem SL.setRow_ {w : World} {A : Option Addr} {n c : Nat} {xs : List Int} (h : SL w A n c xs) {b : Nat} (hb : 0 < n → ∀ ad, A = some ad → ad.block ≠ b) (cs : Array Value) : SL (w.setRow b cs) A n c xs :=
  ⟨⟨h.il.len, h.il.small, fun hn => by
    obtain ⟨ad, e, hl, hc⟩ := h.il.mem hn
    refine ⟨ad, e, by simpa using hl, fun j hj => ?_⟩
    rw [← hc j hj]
    exact cell_setRow_other w b cs (ad.add j) (by rw [block_of_add]; exact hb hn ad e)⟩, h.nil, h.cap⟩
theorem Below.setRow_ {B g : Nat} {w0 w : World} (hb : Below B w0 w) (hBg : B ≤ g) (cs : Array Value) : Below B w0 (w.setRow g cs) :=
  ⟨hb.os, hb.tape, hb.output, by simpa using hb.size, fun k hk => (setRow_other _ _ _ _ (by omega)).trans (hb.block k hk)⟩
end Go.Proofs.Ythhcjnmlpojjeaa
