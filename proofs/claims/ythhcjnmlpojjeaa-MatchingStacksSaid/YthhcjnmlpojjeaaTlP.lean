/- All matchings, one after another; the planar ones among them. -/
import Derived.Test.YthhcjnmlpojjeaaTlX
namespace Go.Proofs.Ythhcjnmlpojjeaa
set_option linter.unusedVariables false
set_option linter.unusedSimpArgs false

/-! ### matchings in numbers from 1 on, 0 where a place is open -/
def Tl.openN : List Nat → Nat → Option Nat
  | [], _ => none
  | x :: l, k => cond (Nat.beq x 0) (some k) (Tl.openN l (k + 1))
def Tl.setN : List Nat → Nat → Nat → List Nat
  | [], _, _ => []
  | _ :: l, 0, x => x :: l
  | a :: l, k + 1, x => a :: Tl.setN l k x
def Tl.partsL (i : Nat) (q : Nat → List (List Nat)) : List Nat → Nat → List (List Nat)
  | [], _ => []
  | c :: l, k => cond (Nat.beq c 0) (cond (Nat.blt i k) (q k ++ Tl.partsL i q l (k + 1)) (Tl.partsL i q l (k + 1))) (Tl.partsL i q l (k + 1))
def Tl.fillN : Nat → List Nat → List (List Nat)
  | 0, _ => []
  | f + 1, d => match Tl.openN d 0 with
    | none => [d]
    | some i => Tl.partsL i (fun k => Tl.forceL (Tl.setN (Tl.setN d i (k + 1)) k (i + 1)) fun d' => Tl.fillN f d') d 0
/-- The boundary, from the first upper point to the first lower one. -/
def Tl.bnd (n : Nat) : List Nat := (List.range (2 * n)).map (Tl.posF n)
def Tl.stE (c : Nat) : List Nat → Nat → Bool
  | [], st => Nat.beq st 0
  | p :: ps, st => Tl.forceN ((c >>> (4 * p)) % 16) fun y => cond (Nat.beq (st % 16) y) (Tl.stE c ps (st / 16)) (Tl.forceN (st * 16 + (p + 1)) fun st' => Tl.stE c ps st')
def Tl.okE (ps : List Nat) (d : List Nat) : Bool := Tl.forceN (Tl.enc d 1) fun c => Tl.stE c ps 0

set_option maxRecDepth 100000 in
theorem fill_low : (List.range 6).all (fun n => n == 0 || ((Tl.fillN (n + 1) (List.replicate (2 * n) 0)).filter (Tl.okE (Tl.bnd n)) == (Tl.plan n).map (List.map (· + 1)))) = true := by decide +kernel
set_option maxRecDepth 100000 in
theorem fill_6_1 : (Tl.fillN 6 [2, 1, 0, 0, 0, 0, 0, 0, 0, 0, 0, 0]).filter (Tl.okE [0, 1, 2, 3, 4, 5, 11, 10, 9, 8, 7, 6]) = (((Tl.plan 6).drop 0).take 42).map (List.map (· + 1)) := by decide +kernel
set_option maxRecDepth 100000 in
theorem fill_6_2 : (Tl.fillN 6 [3, 0, 1, 0, 0, 0, 0, 0, 0, 0, 0, 0]).filter (Tl.okE [0, 1, 2, 3, 4, 5, 11, 10, 9, 8, 7, 6]) = (((Tl.plan 6).drop 42).take 0).map (List.map (· + 1)) := by decide +kernel
set_option maxRecDepth 100000 in
theorem fill_6_3 : (Tl.fillN 6 [4, 0, 0, 1, 0, 0, 0, 0, 0, 0, 0, 0]).filter (Tl.okE [0, 1, 2, 3, 4, 5, 11, 10, 9, 8, 7, 6]) = (((Tl.plan 6).drop 42).take 14).map (List.map (· + 1)) := by decide +kernel
set_option maxRecDepth 100000 in
theorem fill_6_4 : (Tl.fillN 6 [5, 0, 0, 0, 1, 0, 0, 0, 0, 0, 0, 0]).filter (Tl.okE [0, 1, 2, 3, 4, 5, 11, 10, 9, 8, 7, 6]) = (((Tl.plan 6).drop 56).take 0).map (List.map (· + 1)) := by decide +kernel
set_option maxRecDepth 100000 in
theorem fill_6_5 : (Tl.fillN 6 [6, 0, 0, 0, 0, 1, 0, 0, 0, 0, 0, 0]).filter (Tl.okE [0, 1, 2, 3, 4, 5, 11, 10, 9, 8, 7, 6]) = (((Tl.plan 6).drop 56).take 10).map (List.map (· + 1)) := by decide +kernel
set_option maxRecDepth 100000 in
theorem fill_6_6 : (Tl.fillN 6 [7, 0, 0, 0, 0, 0, 1, 0, 0, 0, 0, 0]).filter (Tl.okE [0, 1, 2, 3, 4, 5, 11, 10, 9, 8, 7, 6]) = (((Tl.plan 6).drop 66).take 42).map (List.map (· + 1)) := by decide +kernel
set_option maxRecDepth 100000 in
theorem fill_6_7 : (Tl.fillN 6 [8, 0, 0, 0, 0, 0, 0, 1, 0, 0, 0, 0]).filter (Tl.okE [0, 1, 2, 3, 4, 5, 11, 10, 9, 8, 7, 6]) = (((Tl.plan 6).drop 108).take 0).map (List.map (· + 1)) := by decide +kernel
set_option maxRecDepth 100000 in
theorem fill_6_8 : (Tl.fillN 6 [9, 0, 0, 0, 0, 0, 0, 0, 1, 0, 0, 0]).filter (Tl.okE [0, 1, 2, 3, 4, 5, 11, 10, 9, 8, 7, 6]) = (((Tl.plan 6).drop 108).take 14).map (List.map (· + 1)) := by decide +kernel
set_option maxRecDepth 100000 in
theorem fill_6_9 : (Tl.fillN 6 [10, 0, 0, 0, 0, 0, 0, 0, 0, 1, 0, 0]).filter (Tl.okE [0, 1, 2, 3, 4, 5, 11, 10, 9, 8, 7, 6]) = (((Tl.plan 6).drop 122).take 0).map (List.map (· + 1)) := by decide +kernel
set_option maxRecDepth 100000 in
theorem fill_6_10 : (Tl.fillN 6 [11, 0, 0, 0, 0, 0, 0, 0, 0, 0, 1, 0]).filter (Tl.okE [0, 1, 2, 3, 4, 5, 11, 10, 9, 8, 7, 6]) = (((Tl.plan 6).drop 122).take 10).map (List.map (· + 1)) := by decide +kernel
set_option maxRecDepth 100000 in
theorem fill_6_11 : (Tl.fillN 6 [12, 0, 0, 0, 0, 0, 0, 0, 0, 0, 0, 1]).filter (Tl.okE [0, 1, 2, 3, 4, 5, 11, 10, 9, 8, 7, 6]) = (((Tl.plan 6).drop 132).take 0).map (List.map (· + 1)) := by decide +kernel
theorem parts_top (q : Nat → List (List Nat)) : Tl.partsL 0 q [0, 0, 0, 0, 0, 0, 0, 0, 0, 0, 0, 0] 0 = q 1 ++ (q 2 ++ (q 3 ++ (q 4 ++ (q 5 ++ (q 6 ++ (q 7 ++ (q 8 ++ (q 9 ++ (q 10 ++ (q 11 ++ [])))))))))) := rfl
theorem fill_6 : (Tl.fillN 7 (List.replicate 12 0)).filter (Tl.okE (Tl.bnd 6)) = (Tl.plan 6).map (List.map (· + 1)) := by
  have e : Tl.fillN 7 (List.replicate 12 0) = Tl.partsL 0 (fun k => Tl.fillN 6 (Tl.setN (Tl.setN [0, 0, 0, 0, 0, 0, 0, 0, 0, 0, 0, 0] 0 (k + 1)) k 1)) [0, 0, 0, 0, 0, 0, 0, 0, 0, 0, 0, 0] 0 := by
    show Tl.partsL 0 (fun k => Tl.forceL (Tl.setN (Tl.setN [0, 0, 0, 0, 0, 0, 0, 0, 0, 0, 0, 0] 0 (k + 1)) k 1) fun d' => Tl.fillN 6 d') [0, 0, 0, 0, 0, 0, 0, 0, 0, 0, 0, 0] 0 = _
    simp only [Tl.forceL_eq]
  have hb : Tl.bnd 6 = [0, 1, 2, 3, 4, 5, 11, 10, 9, 8, 7, 6] := by decide
  have cut : ∀ (a : Nat) (b : Nat) (l : List (List Nat)), l.drop a = (l.drop a).take b ++ l.drop (a + b) := fun a b l => by rw [← List.drop_drop, List.take_append_drop]
  rw [e, parts_top, hb]
  simp only [List.filter_append, List.filter_nil]
  conv => rhs; rw [show Tl.plan 6 = (Tl.plan 6).drop 0 from rfl, cut 0 42 (Tl.plan 6), cut 42 0 (Tl.plan 6), cut 42 14 (Tl.plan 6), cut 56 0 (Tl.plan 6), cut 56 10 (Tl.plan 6), cut 66 42 (Tl.plan 6), cut 108 0 (Tl.plan 6), cut 108 14 (Tl.plan 6), cut 122 0 (Tl.plan 6), cut 122 10 (Tl.plan 6), cut 132 0 (Tl.plan 6)]
  simp only [List.map_append]
  refine congr (congrArg HAppend.hAppend fill_6_1) ?_
  refine congr (congrArg HAppend.hAppend fill_6_2) ?_
  refine congr (congrArg HAppend.hAppend fill_6_3) ?_
  refine congr (congrArg HAppend.hAppend fill_6_4) ?_
  refine congr (congrArg HAppend.hAppend fill_6_5) ?_
  refine congr (congrArg HAppend.hAppend fill_6_6) ?_
  refine congr (congrArg HAppend.hAppend fill_6_7) ?_
  refine congr (congrArg HAppend.hAppend fill_6_8) ?_
  refine congr (congrArg HAppend.hAppend fill_6_9) ?_
  refine congr (congrArg HAppend.hAppend fill_6_10) ?_
  refine congr (congrArg HAppend.hAppend fill_6_11) ?_
  rfl
end Go.Proofs.Ythhcjnmlpojjeaa
