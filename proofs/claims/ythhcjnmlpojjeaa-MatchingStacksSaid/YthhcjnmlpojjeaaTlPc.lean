/- Planar matchings completed point by point: the order of the program, checked in the kernel. -/
import Derived.Test.YthhcjnmlpojjeaaTlE1
namespace Go.Proofs.Ythhcjnmlpojjeaa
set_option linter.unusedVariables false
set_option linter.unusedSimpArgs false

/-- The walk around the points, over the digits of a matching; an open point (0) does not matter. -/
def Tl.stP (c : Nat) : List Nat → Nat → Bool
  | [], st => Nat.beq st 0
  | p :: ps, st => Tl.forceN ((c >>> (4 * p)) % 16) fun y => cond (Nat.beq y 0) (Tl.stP c ps st) (cond (Nat.beq (st % 16) y) (Tl.stP c ps (st / 16)) (Tl.forceN (st * 16 + (p + 1)) fun st' => Tl.stP c ps st'))
def Tl.okP (ps : List Nat) (d : List Nat) : Bool := Tl.forceN (Tl.enc d 1) fun c => Tl.stP c ps 0
/-- All planar completions. -/
def Tl.cmpF (ps : List Nat) : Nat → List Nat → List (List Nat)
  | 0, _ => []
  | f + 1, d => match Tl.openN d 0 with
    | none => [d]
    | some i => Tl.partsL i (fun k => Tl.forceL (Tl.setN (Tl.setN d i (k + 1)) k (i + 1)) fun d' => cond (Tl.okP ps d') (Tl.cmpF ps f d') []) d 0
set_option maxRecDepth 100000 in
theorem cmp_all : (List.range 7).all (fun n => n == 0 || (Tl.cmpF (Tl.bnd n) (n + 1) (List.replicate (2 * n) 0) == (Tl.plan n).map (List.map (· + 1)))) = true := by decide +kernel
theorem cmp_plan {n : Nat} (h0 : 1 ≤ n) (h6 : n ≤ 6) : Tl.cmpF (Tl.bnd n) (n + 1) (List.replicate (2 * n) 0) = (Tl.plan n).map (List.map (· + 1)) := by
  have h1 := cmp_all
  rw [List.all_eq_true] at h1
  have h2 := h1 n (List.mem_range.2 (by omega))
  rw [Bool.or_eq_true, beq_iff_eq, beq_iff_eq] at h2
  exact h2.resolve_left (by omega)
end Go.Proofs.Ythhcjnmlpojjeaa
