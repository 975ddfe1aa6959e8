/- What package intmatrix's functions are to answer. -/
import Derived.Test.YtgjblcfcbohjdaaDoorMatF
import Derived.Test.YtgjblcfcbohjdaaDoorBase
import Derived.Test.YtgjblcfcbohjdaaDoorDetRef2
import Derived.Test.YtgjblcfcbohjdaaDoorTz
namespace Go.Proofs.YtgjblcfcbohjdaaDoor
set_option linter.unusedVariables false
set_option linter.unusedSimpArgs false
open Go.RowKit

def colsM (xss : List (List Int)) : Nat := (xss.getD 0 []).length
def detE (xss : List (List Int)) : Int := if mfault xss = 0 then (if 0 < xss.length ∧ colsM xss ≠ xss.length then 3 else 0) else mfault xss
def detV (xss : List (List Int)) : Int := if detE xss = 0 then detR xss.length (matF xss) else 0
noncomputable def smithS (n m : Nat) (A : Mtx Int) : Nat → Int := Classical.choose (smith n m A)
theorem smithS_chain (n m : Nat) (A : Mtx Int) : ∀ i, i + 1 < min n m → smithS n m A i ∣ smithS n m A (i + 1) := (Classical.choose_spec (smith n m A)).1
theorem smithS_el (n m : Nat) (A : Mtx Int) : El n m A (diagM (smithS n m A)) := (Classical.choose_spec (smith n m A)).2
noncomputable def smithL (xss : List (List Int)) : List Int := if mfault xss = 0 then (List.range (min xss.length (colsM xss))).map fun i => ((smithS xss.length (colsM xss) (matF xss) i).natAbs : Int) else []
noncomputable def rankV (xss : List (List Int)) : Int := ((smithL xss).countP fun x => !(x == 0) : Nat)
/-- The digit i of t in base q. -/
def digI (q t i : Nat) : Int := ((t / q ^ i % q : Nat) : Int)
def dotI (r : List Int) (v : Nat → Int) : Int := CR.sumN r.length fun i => r.getD i 0 * v i
/-- Is the vector of the digits of t a solution? -/
def solB (xss : List (List Int)) (q t : Nat) : Bool := xss.all fun r => dotI r (digI q t) % (q : Int) == 0
def solN (xss : List (List Int)) (m q : Nat) : Nat := (List.range (q ^ m)).countP fun t => solB xss q t
def solE (xss : List (List Int)) (q : Int) : Int := if mfault xss = 0 then (if q < 1 ∨ 13 < q then 1 else 0) else mfault xss
def solV (xss : List (List Int)) (q : Int) : Int := if solE xss q = 0 then (solN xss (colsM xss) q.toNat : Nat) else 0

/-- A slice and an error. -/
def GivesLErr (w : World) (err : Int) (xs : List Int) (e : Ending) (w' : World) : Prop :=
  ∃ A n c, e = .returned (.tuple #[.slice A n c, .int .i64 err]) ∧ SL w' A n c xs ∧ Below w.heap.size w w'

/-- Package intmatrix, as the document asks. -/
structure MatC : Prop where
  check : ∀ (A : Option Addr) (n c : Nat) (xss : List (List Int)) (w : World), SLL w A n c xss → Calls Tryd.prog 13 #[.slice A n c] w fun e w' => e = .returned (.int .i64 (mfault xss)) ∧ Below w.heap.size w w'
  det : ∀ (A : Option Addr) (n c : Nat) (xss : List (List Int)) (w : World), SLL w A n c xss → TabW w → Calls Tryd.prog 10 #[.slice A n c] w fun e w' => e = .returned (.tuple #[.int .i64 (detV xss), .int .i64 (detE xss)]) ∧ Below w.heap.size w w'
  smith : ∀ (A : Option Addr) (n c : Nat) (xss : List (List Int)) (w : World), SLL w A n c xss → TabW w → Calls Tryd.prog 15 #[.slice A n c] w (GivesLErr w (mfault xss) (smithL xss))
  rank : ∀ (A : Option Addr) (n c : Nat) (xss : List (List Int)) (w : World), SLL w A n c xss → TabW w → Calls Tryd.prog 16 #[.slice A n c] w fun e w' => e = .returned (.tuple #[.int .i64 (rankV xss), .int .i64 (mfault xss)]) ∧ Below w.heap.size w w'
  solutions : ∀ (A : Option Addr) (n c : Nat) (xss : List (List Int)) (q : Int) (w : World), SLL w A n c xss → TabW w → (Lit.int .i64 q).wf = true → Calls Tryd.prog 19 #[.slice A n c, .int .i64 q] w fun e w' => e = .returned (.tuple #[.int .i64 (solV xss q), .int .i64 (solE xss q)]) ∧ Below w.heap.size w w'

/-! ### the matrix [2 0] [0 3] -/
theorem mat23 : matF [[2, 0], [0, 3]] = fun i j => if i = 0 ∧ j = 0 then 2 else if i = 1 ∧ j = 1 then 3 else 0 := by
  funext i j
  match i, j with
  | 0, 0 => rfl
  | 0, 1 => rfl
  | 0, j + 2 => simp [matF, List.getD]
  | 1, 0 => rfl
  | 1, 1 => rfl
  | 1, j + 2 => simp [matF, List.getD]
  | i + 2, j => simp [matF, List.getD]
theorem det23 : detR 2 (matF [[2, 0], [0, 3]]) = 6 := by decide
theorem smith23 : smithL [[2, 0], [0, 3]] = [1, 6] := by
  have h0 : mfault [[2, 0], [0, 3]] = 0 := by decide
  have hc : colsM [[2, 0], [0, 3]] = 2 := rfl
  unfold smithL
  rw [if_pos h0, hc]
  obtain ⟨s, hs⟩ : ∃ s, smithS 2 2 (matF [[2, 0], [0, 3]]) = s := ⟨_, rfl⟩
  have h1 := smithS_chain 2 2 (matF [[2, 0], [0, 3]])
  have h2 := smithS_el 2 2 (matF [[2, 0], [0, 3]])
  show [((smithS 2 2 (matF [[2, 0], [0, 3]]) 0).natAbs : Int), ((smithS 2 2 (matF [[2, 0], [0, 3]]) 1).natAbs : Int)] = [1, 6]
  rw [hs] at h1 h2 ⊢
  have h3 := det_prod h2
  rw [det23] at h3
  have h4 : DivAll 2 2 1 (matF [[2, 0], [0, 3]]) (s 0) := (smith_div h1 h2 (by decide) (s 0)).2 (by show s 0 ∣ 1 * s 0; rw [Int.one_mul]; exact Int.dvd_refl _)
  have h5 := DivAll.one.1 h4
  have h6 : s 0 ∣ 2 := h5 0 (by omega) 0 (by omega)
  have h7 : s 0 ∣ 3 := h5 1 (by omega) 1 (by omega)
  have h8 : s 0 ∣ 1 := by
    have := Int.dvd_sub h7 h6
    exact this
  have h9 : (s 0).natAbs = 1 := Nat.dvd_one.1 (Int.natAbs_dvd_natAbs.2 h8)
  have h10 : (prodF s 2).natAbs = 6 := by rw [← h3]; rfl
  have h11 : prodF s 2 = 1 * s 0 * s 1 := rfl
  rw [h11, Int.one_mul, Int.natAbs_mul, h9, Nat.one_mul] at h10
  rw [h9, h10]
  rfl
/-- A right matrix: its rows are as long as the first one, its entries small. -/
theorem mat_rows {xss : List (List Int)} (h : mfault xss = 0) : xss.length ≤ 6 ∧ colsM xss ≤ 6 ∧ (∀ i, i < xss.length → (xss.getD i []).length = colsM xss) ∧ ∀ i j, (matF xss i j).natAbs ≤ 100 := by
  obtain ⟨h1, h2, h3⟩ := mfault_zero h
  have hm : ∀ i, i < xss.length → xss.getD i [] ∈ xss := fun i hi => by
    rw [show xss.getD i [] = xss[i] by simp [List.getD, List.getElem?_eq_getElem hi]]
    exact List.getElem_mem _
  refine ⟨h1, h2, fun i hi => (h3 _ (hm i hi)).1, fun i j => ?_⟩
  unfold matF
  by_cases hi : i < xss.length
  · by_cases hj : j < (xss.getD i []).length
    · have := (h3 _ (hm i hi)).2 _ (getD_memI hj)
      omega
    · have : (xss.getD i []).getD j 0 = 0 := by rw [List.getD_eq_getElem?_getD, List.getElem?_eq_none (by omega)]; rfl
      rw [this]; decide
  · have : xss.getD i [] = [] := by rw [List.getD_eq_getElem?_getD, List.getElem?_eq_none (by omega)]; rfl
    rw [this]; simp
end Go.Proofs.YtgjblcfcbohjdaaDoor
