/- Several texts in one. -/
import Derived.Test.YtgbipfohcailnaaPart6
import Derived.Test.YtgbipfohcailnaaPart8
import Derived.Test.YtgbipfohcailnaaBase1
import Derived.Test.YtgbipfohcailnaaPart5
import Derived.Test.YtgbipfohcailnaaPart9
/- timbref1.Burau. (Written by tools/gen_burau.py.) -/
namespace Go.Proofs.Ytgbipfohcailnaa
set_option linter.unusedVariables false
set_option linter.unusedSimpArgs false
open Go.RowKit

theorem mk_two (e f c d : Int) : LP.mk [(e, c), (f, d)] = LP.term e c + LP.term f d := rfl
/-- Four cells written: the matrix of a letter. -/
def set4 (Z : Mtx LP) (q : Nat) (e1 e2 e3 e4 : LP) : Mtx LP := fun a c => if a = q ∧ c = q then e4 else if a = q ∧ c = q - 1 then e3 else if a = q - 1 ∧ c = q then e2 else if a = q - 1 ∧ c = q - 1 then e1 else Z a c
theorem set4_pos {n : Nat} {Z : Mtx LP} {x : Int} (hZ : EqM n Z oneM) (h0 : 0 < x) : EqM n (set4 Z x.natAbs (1 + -tT) tT 1 0) (bl x) := fun r hr c hc => by
  have h1 : 1 ≤ x.natAbs := by omega
  unfold set4 bl
  rw [hZ r hr c hc]
  unfold oneM
  simp only [if_pos h0]
  generalize x.natAbs = q at *
  by_cases a1 : r + 1 = q
  · subst a1
    rw [if_neg (by omega), if_neg (by omega), if_pos rfl]
    by_cases a2 : c = r
    · rw [if_neg (by omega), if_pos (by omega), if_pos a2]
    · rw [if_neg a2]
      by_cases a3 : c = r + 1
      · rw [if_pos (by omega), if_pos a3]
      · rw [if_neg (by omega), if_neg (by omega), if_neg (fun e => a2 e.symm), if_neg a3]
  · rw [if_neg a1]
    by_cases b1 : r = q
    · subst b1
      rw [if_pos rfl]
      by_cases a2 : c + 1 = r
      · rw [if_neg (by omega), if_pos (by omega), if_pos a2]
      · rw [if_neg a2]
        by_cases a3 : c = r
        · rw [if_pos ⟨rfl, a3⟩]
        · rw [if_neg (by omega), if_neg (by omega), if_neg (by omega), if_neg (by omega), if_neg (fun e => a3 e.symm)]
    · rw [if_neg b1, if_neg (by omega), if_neg (by omega), if_neg (by omega), if_neg (by omega)]
theorem set4_neg {n : Nat} {Z : Mtx LP} {x : Int} (hZ : EqM n Z oneM) (h0 : x < 0) : EqM n (set4 Z x.natAbs 0 1 tI (1 + -tI)) (bl x) := fun r hr c hc => by
  have h1 : 1 ≤ x.natAbs := by omega
  unfold set4 bl
  rw [hZ r hr c hc]
  unfold oneM
  simp only [if_neg (show ¬ 0 < x by omega)]
  generalize x.natAbs = q at *
  by_cases a1 : r + 1 = q
  · subst a1
    rw [if_neg (by omega), if_neg (by omega), if_pos rfl]
    by_cases a3 : c = r + 1
    · rw [if_pos (by omega), if_pos a3]
    · rw [if_neg (by omega), if_neg a3]
      by_cases a2 : c = r
      · rw [if_pos (by omega)]
      · rw [if_neg (by omega), if_neg (fun e => a2 e.symm)]
  · rw [if_neg a1]
    by_cases b1 : r = q
    · subst b1
      rw [if_pos rfl]
      by_cases a2 : c + 1 = r
      · rw [if_neg (by omega), if_pos (by omega), if_pos a2]
      · rw [if_neg a2]
        by_cases a3 : c = r
        · rw [if_pos ⟨rfl, a3⟩, if_pos a3]
        · rw [if_neg (by omega), if_neg (by omega), if_neg (by omega), if_neg (by omega), if_neg (fun e => a3 e.symm), if_neg a3]
    · rw [if_neg b1, if_neg (by omega), if_neg (by omega), if_neg (by omega), if_neg (by omega)]
theorem vTA : LP.mk (putT (putT [] 0 1) 1 (-1)) = 1 + -tT := LP.ext fun k => by
  show LP.co (LP.mk [(0, 1), (1, -1)]) k = _
  rw [mk_two, LP.co_add, LP.co_add, LP.co_neg, LP.co_one]
  unfold tT
  rw [LP.co_term, LP.co_term, LP.co_term]
  split <;> split <;> omega
theorem vTB : LP.mk (putT (putT [] 1 (-1)) 0 1) = 1 + -tT := LP.ext fun k => by
  show LP.co (LP.mk [(1, -1), (0, 1)]) k = _
  rw [mk_two, LP.co_add, LP.co_add, LP.co_neg, LP.co_one]
  unfold tT
  rw [LP.co_term, LP.co_term, LP.co_term]
  split <;> split <;> omega
theorem vIA : LP.mk (putT (putT [] 0 1) (-1) (-1)) = 1 + -tI := LP.ext fun k => by
  show LP.co (LP.mk [(0, 1), (-1, -1)]) k = _
  rw [mk_two, LP.co_add, LP.co_add, LP.co_neg, LP.co_one]
  unfold tI
  rw [LP.co_term, LP.co_term, LP.co_term]
  split <;> split <;> omega
theorem vIB : LP.mk (putT (putT [] (-1) (-1)) 0 1) = 1 + -tI := LP.ext fun k => by
  show LP.co (LP.mk [(-1, -1), (0, 1)]) k = _
  rw [mk_two, LP.co_add, LP.co_add, LP.co_neg, LP.co_one]
  unfold tI
  rw [LP.co_term, LP.co_term, LP.co_term]
  split <;> split <;> omega
def c9 : Nat → ChainM := fun c => if c = 0 then ⟨63, some 64, 8, 4, fun k => [0, 1, 2, 2, 3, 3, 4, 4].getD k 0, fun k => [[], [], putT ([]) 0 1, putT ([]) 1 (-1), putT (putT ([]) 0 1) 1 (-1), putT (putT ([]) 1 (-1)) 0 1, putT (putT ([]) 0 1) 1 (-1), putT (putT ([]) 1 (-1)) 0 1].getD k [], fun k => [false, true, true, true, true, true, true, true].getD k false, fun k => [false, false, false, false, false, false, true, true].getD k false, fun k => [[], [24], [24, 25], [24, 26], [24, 25, 26], [24, 26, 25], [24, 25, 26, 27], [24, 26, 25, 27]].getD k [], fun k => [[(24, 1)], [(25, 2), (26, 3)], [(26, 4)], [(25, 5)], [(27, 6)], [(27, 7)], [], []].getD k []⟩ else if c = 1 then ⟨65, some 66, 4, 3, fun k => [0, 1, 2, 3].getD k 0, fun k => [[], [], putT ([]) 1 1, putT ([]) 1 1].getD k [], fun k => [false, true, true, true].getD k false, fun k => [false, false, false, true].getD k false, fun k => [[], [28], [28, 29], [28, 29, 30]].getD k [], fun k => [[(28, 1)], [(29, 2)], [(30, 3)], []].getD k []⟩ else if c = 2 then ⟨67, some 68, 4, 3, fun k => [0, 1, 2, 3].getD k 0, fun k => [[], [], putT ([]) 0 1, putT ([]) 0 1].getD k [], fun k => [false, true, true, true].getD k false, fun k => [false, false, false, true].getD k false, fun k => [[], [31], [31, 32], [31, 32, 33]].getD k [], fun k => [[(31, 1)], [(32, 2)], [(33, 3)], []].getD k []⟩ else if c = 3 then ⟨69, none, 2, 1, fun k => [0, 1].getD k 0, fun k => [[], []].getD k [], fun k => [false, true].getD k false, fun k => [false, false].getD k false, fun k => [[], [34]].getD k [], fun k => [[(34, 1)], []].getD k []⟩ else ⟨0, none, 9, 8, fun k => k, fun _ => [], fun _ => false, fun _ => false, fun k => [35, 36, 37, 38, 39, 40, 41, 42].take k, fun k => if k < 8 then [(35 + k, k + 1)] else []⟩
def nsc9 : List (Nat × List Nat) := [(24, []), (25, [24]), (26, [24]), (27, [24, 25, 26]), (28, []), (29, [28]), (30, [28, 29]), (31, []), (32, [31]), (33, [31, 32]), (34, []), (35, [24, 25, 26, 27]), (36, [35, 27, 24, 25, 26, 27]), (37, [24, 25, 26, 27, 28, 29, 30, 35, 36]), (38, [37, 30, 36, 24, 25, 26, 27, 28, 29, 30, 35, 36]), (39, [24, 25, 26, 27, 28, 29, 30, 31, 32, 33, 35, 36, 37, 38]), (40, [39, 33, 38, 24, 25, 26, 27, 28, 29, 30, 31, 32, 33, 35, 36, 37, 38]), (41, [24, 25, 26, 27, 28, 29, 30, 31, 32, 33, 34, 35, 36, 37, 38, 39, 40]), (42, [41, 34, 40, 24, 25, 26, 27, 28, 29, 30, 31, 32, 33, 34, 35, 36, 37, 38, 39, 40])]
def ec9 : Nat → LP
  | 0 => 1 + -tT
  | 1 => tT
  | 2 => 1
  | _ => 0
set_option maxRecDepth 100000 in
theorem chkc9 : chk5 nsc9 43 c9 = true := by kernel_rfl
set_option maxRecDepth 100000 in
theorem chkTc9 : chkT 43 24 c9 = true := by kernel_rfl
theorem endc9 {p : Nat → Nat} (hp : ∀ c, c < 5 → p c < (c9 c).n) : (((c9 0).rank (p 0) = (c9 0).R → p 0 = 6 ∨ p 0 = 7)) ∧ (((c9 1).rank (p 1) = (c9 1).R → p 1 = 3)) ∧ (((c9 2).rank (p 2) = (c9 2).R → p 2 = 3)) ∧ (((c9 3).rank (p 3) = (c9 3).R → p 3 = 1)) ∧ ((c9 4).rank (p 4) = (c9 4).R → p 4 = 8) := by
  refine ⟨fun h2 => ?_, fun h2 => ?_, fun h2 => ?_, fun h2 => ?_, fun h2 => h2⟩
  · have h1 : p 0 < 8 := hp 0 (by omega)
    generalize p 0 = k at h1 h2 ⊢
    have hkk : k = 0 ∨ k = 1 ∨ k = 2 ∨ k = 3 ∨ k = 4 ∨ k = 5 ∨ k = 6 ∨ k = 7 := by omega
    rcases hkk with rfl | rfl | rfl | rfl | rfl | rfl | rfl | rfl <;> first | (left; rfl) | (right; rfl) | rfl | exact absurd h2 (by decide)
  · have h1 : p 1 < 4 := hp 1 (by omega)
    generalize p 1 = k at h1 h2 ⊢
    have hkk : k = 0 ∨ k = 1 ∨ k = 2 ∨ k = 3 := by omega
    rcases hkk with rfl | rfl | rfl | rfl <;> first | (left; rfl) | (right; rfl) | rfl | exact absurd h2 (by decide)
  · have h1 : p 2 < 4 := hp 2 (by omega)
    generalize p 2 = k at h1 h2 ⊢
    have hkk : k = 0 ∨ k = 1 ∨ k = 2 ∨ k = 3 := by omega
    rcases hkk with rfl | rfl | rfl | rfl <;> first | (left; rfl) | (right; rfl) | rfl | exact absurd h2 (by decide)
  · have h1 : p 3 < 2 := hp 3 (by omega)
    generalize p 3 = k at h1 h2 ⊢
    have hkk : k = 0 ∨ k = 1 := by omega
    rcases hkk with rfl | rfl <;> first | (left; rfl) | (right; rfl) | rfl | exact absurd h2 (by decide)
theorem finc9 {p : Nat → Nat} (hp : ∀ c, c < 5 → p c < (c9 c).n) : ∀ j, j < 4 → (c9 j).rank (p j) = (c9 j).R → (c9 j).made (p j) = true ∧ ((c9 j).t ≠ none → (c9 j).moved (p j) = true) ∧ LP.mk ((c9 j).T (p j)) = ec9 j ∧ ∀ y ∈ (c9 j).T (p j), y.1.natAbs ≤ 1 := by
  intro j hj hr
  have hcc : j = 0 ∨ j = 1 ∨ j = 2 ∨ j = 3 := by omega
  have he := endc9 hp
  rcases hcc with rfl | rfl | rfl | rfl
  · rcases he.1 hr with e | e <;> rw [e]
    · exact ⟨rfl, fun _ => rfl, vTA, by intro y hy; change y ∈ putT (putT ([]) 0 1) 1 (-1) at hy; simp [putT] at hy; rcases hy with rfl | rfl <;> decide⟩
    · exact ⟨rfl, fun _ => rfl, vTB, by intro y hy; change y ∈ putT (putT ([]) 1 (-1)) 0 1 at hy; simp [putT] at hy; rcases hy with rfl | rfl <;> decide⟩
  · rw [he.2.1 hr]
    exact ⟨rfl, fun _ => rfl, rfl, by intro y hy; change y ∈ putT ([]) 1 1 at hy; simp [putT] at hy; try (subst hy; decide)⟩
  · rw [he.2.2.1 hr]
    exact ⟨rfl, fun _ => rfl, rfl, by intro y hy; change y ∈ putT ([]) 0 1 at hy; simp [putT] at hy; try (subst hy; decide)⟩
  · rw [he.2.2.2.1 hr]
    exact ⟨rfl, fun h => absurd rfl h, rfl, by intro y hy; change y ∈ [] at hy; simp [putT] at hy; try (subst hy; decide)⟩
theorem lstc9 {p : Nat → Nat} (hp : ∀ c, c < 5 → p c < (c9 c).n) (hr : ∀ c, c < 5 → (c9 c).rank (p c) = (c9 c).R) : lst c9 43 24 p = (List.replicate 43 true).toArray := by
  have he := endc9 hp
  have h0 := he.1 (hr 0 (by omega))
  have h1 := he.2.1 (hr 1 (by omega))
  have h2 := he.2.2.1 (hr 2 (by omega))
  have h3 := he.2.2.2.1 (hr 3 (by omega))
  have h4 := he.2.2.2.2 (hr 4 (by omega))
  rw [lst_congr (pOf_eq p)]
  rw [h1]
  rw [h2]
  rw [h3]
  rw [h4]
  rcases h0 with h0 | h0 <;> rw [h0] <;> (show _ = _; kernel_rfl)
def c10 : Nat → ChainM := fun c => if c = 0 then ⟨98, none, 2, 1, fun k => [0, 1].getD k 0, fun k => [[], []].getD k [], fun k => [false, true].getD k false, fun k => [false, false].getD k false, fun k => [[], [24]].getD k [], fun k => [[(24, 1)], []].getD k []⟩ else if c = 1 then ⟨99, some 100, 4, 3, fun k => [0, 1, 2, 3].getD k 0, fun k => [[], [], putT ([]) 0 1, putT ([]) 0 1].getD k [], fun k => [false, true, true, true].getD k false, fun k => [false, false, false, true].getD k false, fun k => [[], [25], [25, 26], [25, 26, 27]].getD k [], fun k => [[(25, 1)], [(26, 2)], [(27, 3)], []].getD k []⟩ else if c = 2 then ⟨101, some 102, 4, 3, fun k => [0, 1, 2, 3].getD k 0, fun k => [[], [], putT ([]) (-1) 1, putT ([]) (-1) 1].getD k [], fun k => [false, true, true, true].getD k false, fun k => [false, false, false, true].getD k false, fun k => [[], [28], [28, 29], [28, 29, 30]].getD k [], fun k => [[(28, 1)], [(29, 2)], [(30, 3)], []].getD k []⟩ else if c = 3 then ⟨103, some 104, 8, 4, fun k => [0, 1, 2, 2, 3, 3, 4, 4].getD k 0, fun k => [[], [], putT ([]) 0 1, putT ([]) (-1) (-1), putT (putT ([]) 0 1) (-1) (-1), putT (putT ([]) (-1) (-1)) 0 1, putT (putT ([]) 0 1) (-1) (-1), putT (putT ([]) (-1) (-1)) 0 1].getD k [], fun k => [false, true, true, true, true, true, true, true].getD k false, fun k => [false, false, false, false, false, false, true, true].getD k false, fun k => [[], [31], [31, 32], [31, 33], [31, 32, 33], [31, 33, 32], [31, 32, 33, 34], [31, 33, 32, 34]].getD k [], fun k => [[(31, 1)], [(32, 2), (33, 3)], [(33, 4)], [(32, 5)], [(34, 6)], [(34, 7)], [], []].getD k []⟩ else ⟨0, none, 9, 8, fun k => k, fun _ => [], fun _ => false, fun _ => false, fun k => [35, 36, 37, 38, 39, 40, 41, 42].take k, fun k => if k < 8 then [(35 + k, k + 1)] else []⟩
def nsc10 : List (Nat × List Nat) := [(24, []), (25, []), (26, [25]), (27, [25, 26]), (28, []), (29, [28]), (30, [28, 29]), (31, []), (32, [31]), (33, [31]), (34, [31, 32, 33]), (35, [24]), (36, [35, 24, 24]), (37, [24, 25, 26, 27, 35, 36]), (38, [37, 27, 36, 24, 25, 26, 27, 35, 36]), (39, [24, 25, 26, 27, 28, 29, 30, 35, 36, 37, 38]), (40, [39, 30, 38, 24, 25, 26, 27, 28, 29, 30, 35, 36, 37, 38]), (41, [24, 25, 26, 27, 28, 29, 30, 31, 32, 33, 34, 35, 36, 37, 38, 39, 40]), (42, [41, 34, 40, 24, 25, 26, 27, 28, 29, 30, 31, 32, 33, 34, 35, 36, 37, 38, 39, 40])]
def ec10 : Nat → LP
  | 0 => 0
  | 1 => 1
  | 2 => tI
  | _ => 1 + -tI
set_option maxRecDepth 100000 in
theorem chkc10 : chk5 nsc10 43 c10 = true := by kernel_rfl
set_option maxRecDepth 100000 in
theorem chkTc10 : chkT 43 24 c10 = true := by kernel_rfl
theorem endc10 {p : Nat → Nat} (hp : ∀ c, c < 5 → p c < (c10 c).n) : (((c10 0).rank (p 0) = (c10 0).R → p 0 = 1)) ∧ (((c10 1).rank (p 1) = (c10 1).R → p 1 = 3)) ∧ (((c10 2).rank (p 2) = (c10 2).R → p 2 = 3)) ∧ (((c10 3).rank (p 3) = (c10 3).R → p 3 = 6 ∨ p 3 = 7)) ∧ ((c10 4).rank (p 4) = (c10 4).R → p 4 = 8) := by
  refine ⟨fun h2 => ?_, fun h2 => ?_, fun h2 => ?_, fun h2 => ?_, fun h2 => h2⟩
  · have h1 : p 0 < 2 := hp 0 (by omega)
    generalize p 0 = k at h1 h2 ⊢
    have hkk : k = 0 ∨ k = 1 := by omega
    rcases hkk with rfl | rfl <;> first | (left; rfl) | (right; rfl) | rfl | exact absurd h2 (by decide)
  · have h1 : p 1 < 4 := hp 1 (by omega)
    generalize p 1 = k at h1 h2 ⊢
    have hkk : k = 0 ∨ k = 1 ∨ k = 2 ∨ k = 3 := by omega
    rcases hkk with rfl | rfl | rfl | rfl <;> first | (left; rfl) | (right; rfl) | rfl | exact absurd h2 (by decide)
  · have h1 : p 2 < 4 := hp 2 (by omega)
    generalize p 2 = k at h1 h2 ⊢
    have hkk : k = 0 ∨ k = 1 ∨ k = 2 ∨ k = 3 := by omega
    rcases hkk with rfl | rfl | rfl | rfl <;> first | (left; rfl) | (right; rfl) | rfl | exact absurd h2 (by decide)
  · have h1 : p 3 < 8 := hp 3 (by omega)
    generalize p 3 = k at h1 h2 ⊢
    have hkk : k = 0 ∨ k = 1 ∨ k = 2 ∨ k = 3 ∨ k = 4 ∨ k = 5 ∨ k = 6 ∨ k = 7 := by omega
    rcases hkk with rfl | rfl | rfl | rfl | rfl | rfl | rfl | rfl <;> first | (left; rfl) | (right; rfl) | rfl | exact absurd h2 (by decide)
theorem finc10 {p : Nat → Nat} (hp : ∀ c, c < 5 → p c < (c10 c).n) : ∀ j, j < 4 → (c10 j).rank (p j) = (c10 j).R → (c10 j).made (p j) = true ∧ ((c10 j).t ≠ none → (c10 j).moved (p j) = true) ∧ LP.mk ((c10 j).T (p j)) = ec10 j ∧ ∀ y ∈ (c10 j).T (p j), y.1.natAbs ≤ 1 := by
  intro j hj hr
  have hcc : j = 0 ∨ j = 1 ∨ j = 2 ∨ j = 3 := by omega
  have he := endc10 hp
  rcases hcc with rfl | rfl | rfl | rfl
  · rw [he.1 hr]
    exact ⟨rfl, fun h => absurd rfl h, rfl, by intro y hy; change y ∈ [] at hy; simp [putT] at hy; try (subst hy; decide)⟩
  · rw [he.2.1 hr]
    exact ⟨rfl, fun _ => rfl, rfl, by intro y hy; change y ∈ putT ([]) 0 1 at hy; simp [putT] at hy; try (subst hy; decide)⟩
  · rw [he.2.2.1 hr]
    exact ⟨rfl, fun _ => rfl, rfl, by intro y hy; change y ∈ putT ([]) (-1) 1 at hy; simp [putT] at hy; try (subst hy; decide)⟩
  · rcases he.2.2.2.1 hr with e | e <;> rw [e]
    · exact ⟨rfl, fun _ => rfl, vIA, by intro y hy; change y ∈ putT (putT ([]) 0 1) (-1) (-1) at hy; simp [putT] at hy; rcases hy with rfl | rfl <;> decide⟩
    · exact ⟨rfl, fun _ => rfl, vIB, by intro y hy; change y ∈ putT (putT ([]) (-1) (-1)) 0 1 at hy; simp [putT] at hy; rcases hy with rfl | rfl <;> decide⟩
theorem lstc10 {p : Nat → Nat} (hp : ∀ c, c < 5 → p c < (c10 c).n) (hr : ∀ c, c < 5 → (c10 c).rank (p c) = (c10 c).R) : lst c10 43 24 p = (List.replicate 43 true).toArray := by
  have he := endc10 hp
  have h0 := he.1 (hr 0 (by omega))
  have h1 := he.2.1 (hr 1 (by omega))
  have h2 := he.2.2.1 (hr 2 (by omega))
  have h3 := he.2.2.2.1 (hr 3 (by omega))
  have h4 := he.2.2.2.2 (hr 4 (by omega))
  rw [lst_congr (pOf_eq p)]
  rw [h0]
  rw [h1]
  rw [h2]
  rw [h4]
  rcases h3 with h3 | h3 <;> rw [h3] <;> (show _ = _; kernel_rfl)

set_option maxRecDepth 100000 in
set_option maxHeartbeats 32000000 in
theorem burauS_any (n : Nat) (A : Option Addr) (l c : Nat) (xs : List Int) (w : World) (ha : SL w A l c xs) (hl : l ≤ 1) (hn : n ≤ 1000) (hx : okB n xs) :
    Calls Try.prog 24 #[.int .i64 n, .slice A l c] w (GivesMO w n (bu n xs) 1) := by
  have HL := hide ha.il.len
  have HA := hide ha
  have HX := hide hx
  have hd1 : decide ((1 : Int) < (l : Int)) = false := by simp; omega
  have hd2 : decide (1 < l) = false := by simp; omega
  clear ha hx
  go_enter Try.func24, Try.ntmps24
  go_wp2_with fail
  refine (unit_any n w hn).mono ?_
  rintro e w1 ⟨go, gr, mb, rfl, hM, hG, hb1, hb⟩
  have HG := hide hG
  have HM1 := hide (hM.mono (Nat.zero_le 1))
  have HB1 := hide hb1
  have HW1 := hide hb
  clear hM hG hb1 hb
  go_wp2_with fail
  go_loopw [31] (fun iv wr => ∃ (k : Nat) (mb : Nat → Nat → Option Nat) (Z : Mtx LP), iv = .int .i64 k ∧ k ≤ l ∧ Hid (MatO w.heap.size wr go n gr mb Z 1) ∧ Hid (∀ a, a < n → ∀ c, c < n → ∃ b, mb a c = some b) ∧ Hid (EqM n Z (bu n (xs.take k))) ∧ Hid (Below w.heap.size w wr)) (fun iv _ => l - (intOf iv).toNat)
  case atStart => exact ⟨0, _, _, rfl, Nat.zero_le _, HM1, HB1, hide (by rw [List.take_zero]; exact EqM.refl _ _), HW1⟩
  case round =>
    clear HM1 HB1 HW1
    obtain ⟨k, mb1, Z1, rfl, hk, HM, HS, HZ, HW⟩ := hrel
    by_cases hkl : k < l
    · obtain rfl : k = 0 := by omega
      obtain ⟨x, rfl⟩ : ∃ x, xs = [x] := by
        have h := HL.out
        rw [show l = 1 by omega] at h
        match xs, h with
        | [x], _ => exact ⟨x, rfl⟩
      obtain ⟨ad, rfl, hcl⟩ := (HA.out.below HW.out).il.at_ (k := 0) (by omega)
      rw [show ad.add 0 = ad by unfold Addr.add; simp] at hcl
      change wr.cell? ad = some (.int .i64 x) at hcl
      have hxx := HX.out x (by simp)
      have HE0 : Hid (EqM n Z1 oneM) := HZ
      have HIX := hide (fun (w : World) => index_any_ x w (by omega))
      obtain ⟨q, hq⟩ : ∃ q, x.natAbs = q := ⟨_, rfl⟩
      rw [hq] at HIX
      have HQ := hide hq
      have hq0 : 0 < q := by omega
      have hqn : q < n := by omega
      have hq1n : q - 1 < n := by omega
      have hqw : IntKind.i64.wrap ((q : Int) - 1) = ((q - 1 : Nat) : Int) := by rw [IntKind.wrap_i64]; omega
      have hbw := HW.out.size
      obtain ⟨g1, hg1⟩ := HG.out (q - 1) hq1n
      obtain ⟨g2, hg2⟩ := HG.out q hqn
      have hoc1 := HM.out.outCell hq1n
      have hoc2 := HM.out.outCell hqn
      rw [hg1] at hoc1
      rw [hg2] at hoc2
      rw [show (⟨go, q - 1, none⟩ : Addr) = ⟨go, (q - 1) * 1, none⟩ by rw [Nat.mul_one]] at hoc1
      rw [show (⟨go, q, none⟩ : Addr) = ⟨go, q * 1, none⟩ by rw [Nat.mul_one]] at hoc2
      change _ = some (Value.slice (some ⟨g1, 0, none⟩) n n) at hoc1
      change _ = some (Value.slice (some ⟨g2, 0, none⟩) n n) at hoc2
      have hgo : go < wr.heap.size := (HM.out.out.lt go rfl).2
      have HG1 := hide hg1
      have HG2 := hide hg2
      have HO1 := hide hoc1
      have HO2 := hide hoc2
      have HQW := hide hqw
      clear hg1 hg2 hq hoc1 hoc2 hqw
      by_cases hp : 0 < x
      · go_wp2_with fail
        refine (HIX.out _).mono ?_
        rintro e w' ⟨rfl, rfl⟩
        have hoc1 := HO1.out
        have hoc2 := HO2.out
        have hqw := HQW.out
        go_upto_region 9 with fail
        refine wp_region_noPanic ?_
        have hS0 : Below wr.heap.size wr wr.drew := (Below.refl _ _).drew
        refine wp_region_held_drew (S := fun z => Below w.heap.size wr z ∧ z.cell? ⟨go, (q - 1) * 1, none⟩ = some (.slice (some ⟨g1, 0, none⟩) n n) ∧ z.cell? ⟨go, q * 1, none⟩ = some (.slice (some ⟨g2, 0, none⟩) n n)) (by kernel_rfl) ⟨hS0.mono hbw, hoc1, hoc2⟩ (fun hT0 => ?_)
        refine wpAnyH_tk 0 (v := .slice (some ⟨go, 0, none⟩) n n) rfl (by kernel_rfl) (by kernel_rfl) (by kernel_rfl) (yi rfl fun w' hw' => gives_move (.inl rfl) rfl) hT0 ?_
        go_frame
        refine wpAnyH_tk 1 (v := .int .i64 q) rfl (by kernel_rfl) (by kernel_rfl) (by kernel_rfl) (yi rfl fun w' hw' => gives_move (.inl rfl) rfl) hT0 ?_
        go_frame
        refine wpAnyH_tk 2 (v := .int .i64 ((q - 1 : Nat) : Int)) rfl (by kernel_rfl) (by kernel_rfl) (by kernel_rfl) (yi rfl fun w' hw' => gives_sub rfl rfl rfl hqw) hT0 ?_
        go_frame
        refine wpAnyH_tk 3 (v := .pointer (some ⟨go, (q - 1) * 1, none⟩)) rfl (by kernel_rfl) (by kernel_rfl) (by kernel_rfl) (yi rfl fun w' hw' => gives_indexB rfl Try.underlying36 (fun w => by kernel_rfl) rfl rfl hq1n) hT0 ?_
        go_frame
        refine wpAnyH_tk 4 (v := .slice (some ⟨g1, 0, none⟩) n n) rfl (by kernel_rfl) (by kernel_rfl) (by kernel_rfl) (yi rfl fun w' hw' => gives_load1 rfl (by kernel_rfl) rfl hw'.2.1) hT0 ?_
        go_frame
        refine wpAnyH_tk 5 (v := .int .i64 q) rfl (by kernel_rfl) (by kernel_rfl) (by kernel_rfl) (yi rfl fun w' hw' => gives_move (.inl rfl) rfl) hT0 ?_
        go_frame
        refine wpAnyH_tk 6 (v := .int .i64 ((q - 1 : Nat) : Int)) rfl (by kernel_rfl) (by kernel_rfl) (by kernel_rfl) (yi rfl fun w' hw' => gives_sub rfl rfl rfl hqw) hT0 ?_
        go_frame
        refine wpAnyH_tk 7 (v := .slice (some ⟨go, 0, none⟩) n n) rfl (by kernel_rfl) (by kernel_rfl) (by kernel_rfl) (yi rfl fun w' hw' => gives_move (.inl rfl) rfl) hT0 ?_
        go_frame
        refine wpAnyH_tk 8 (v := .int .i64 q) rfl (by kernel_rfl) (by kernel_rfl) (by kernel_rfl) (yi rfl fun w' hw' => gives_move (.inl rfl) rfl) hT0 ?_
        go_frame
        refine wpAnyH_tk 9 (v := .int .i64 ((q - 1 : Nat) : Int)) rfl (by kernel_rfl) (by kernel_rfl) (by kernel_rfl) (yi rfl fun w' hw' => gives_sub rfl rfl rfl hqw) hT0 ?_
        go_frame
        refine wpAnyH_tk 10 (v := .pointer (some ⟨go, (q - 1) * 1, none⟩)) rfl (by kernel_rfl) (by kernel_rfl) (by kernel_rfl) (yi rfl fun w' hw' => gives_indexB rfl Try.underlying36 (fun w => by kernel_rfl) rfl rfl hq1n) hT0 ?_
        go_frame
        refine wpAnyH_tk 11 (v := .slice (some ⟨g1, 0, none⟩) n n) rfl (by kernel_rfl) (by kernel_rfl) (by kernel_rfl) (yi rfl fun w' hw' => gives_load1 rfl (by kernel_rfl) rfl hw'.2.1) hT0 ?_
        go_frame
        refine wpAnyH_tk 12 (v := .int .i64 q) rfl (by kernel_rfl) (by kernel_rfl) (by kernel_rfl) (yi rfl fun w' hw' => gives_move (.inl rfl) rfl) hT0 ?_
        go_frame
        refine wpAnyH_tk 13 (v := .slice (some ⟨go, 0, none⟩) n n) rfl (by kernel_rfl) (by kernel_rfl) (by kernel_rfl) (yi rfl fun w' hw' => gives_move (.inl rfl) rfl) hT0 ?_
        go_frame
        refine wpAnyH_tk 14 (v := .int .i64 q) rfl (by kernel_rfl) (by kernel_rfl) (by kernel_rfl) (yi rfl fun w' hw' => gives_move (.inl rfl) rfl) hT0 ?_
        go_frame
        refine wpAnyH_tk 15 (v := .pointer (some ⟨go, q * 1, none⟩)) rfl (by kernel_rfl) (by kernel_rfl) (by kernel_rfl) (yi rfl fun w' hw' => gives_indexB rfl Try.underlying36 (fun w => by kernel_rfl) rfl rfl hqn) hT0 ?_
        go_frame
        refine wpAnyH_tk 16 (v := .slice (some ⟨g2, 0, none⟩) n n) rfl (by kernel_rfl) (by kernel_rfl) (by kernel_rfl) (yi rfl fun w' hw' => gives_load1 rfl (by kernel_rfl) rfl hw'.2.2) hT0 ?_
        go_frame
        refine wpAnyH_tk 17 (v := .int .i64 q) rfl (by kernel_rfl) (by kernel_rfl) (by kernel_rfl) (yi rfl fun w' hw' => gives_move (.inl rfl) rfl) hT0 ?_
        go_frame
        refine wpAnyH_tk 18 (v := .int .i64 ((q - 1 : Nat) : Int)) rfl (by kernel_rfl) (by kernel_rfl) (by kernel_rfl) (yi rfl fun w' hw' => gives_sub rfl rfl rfl hqw) hT0 ?_
        go_frame
        refine wpAnyH_tk 19 (v := .slice (some ⟨go, 0, none⟩) n n) rfl (by kernel_rfl) (by kernel_rfl) (by kernel_rfl) (yi rfl fun w' hw' => gives_move (.inl rfl) rfl) hT0 ?_
        go_frame
        refine wpAnyH_tk 20 (v := .int .i64 q) rfl (by kernel_rfl) (by kernel_rfl) (by kernel_rfl) (yi rfl fun w' hw' => gives_move (.inl rfl) rfl) hT0 ?_
        go_frame
        refine wpAnyH_tk 21 (v := .pointer (some ⟨go, q * 1, none⟩)) rfl (by kernel_rfl) (by kernel_rfl) (by kernel_rfl) (yi rfl fun w' hw' => gives_indexB rfl Try.underlying36 (fun w => by kernel_rfl) rfl rfl hqn) hT0 ?_
        go_frame
        refine wpAnyH_tk 22 (v := .slice (some ⟨g2, 0, none⟩) n n) rfl (by kernel_rfl) (by kernel_rfl) (by kernel_rfl) (yi rfl fun w' hw' => gives_load1 rfl (by kernel_rfl) rfl hw'.2.2) hT0 ?_
        go_frame
        refine wpAnyH_tk 23 (v := .int .i64 q) rfl (by kernel_rfl) (by kernel_rfl) (by kernel_rfl) (yi rfl fun w' hw' => gives_move (.inl rfl) rfl) hT0 ?_
        go_frame
        have hg1 := HG1.out
        have hg2 := HG2.out
        have hlt9 : ∀ i, i < n → ∀ g, gr i = some g → g < wr.heap.size := fun i hi g hg => (HM.out.rowLt hi hg).2
        have hPM := phB (Z := Z1) (e := ec9) hbw hgo hlt9 hq1n hqn hg1 hg2
        refine wpAnyH_listed (l' := lst c9 43 24 fun _ => 0) (fuel' := 0 + sumC (fun c => (c9 c).R) 5) (by kernel_rfl) (by kernel_rfl) ?_
        have hnu : ∀ u ∈ [70, 71, 72, 73], chkO c9 u = true := by decide
        have hst9 : ∀ t ∈ [70, 71, 72, 73], t < 109 := by decide
        refine wpAnyH_five (base := wr.heap.size) hPM c9 43 24 0 _ _ nsc9 (by kernel_rfl) (by kernel_rfl) (by omega) chkc9 chkTc9 ?_ ?_ (by kernel_rfl) ?_ (fun k => [(70, .pointer (some ⟨g1, q - 1, none⟩)), (71, .pointer (some ⟨g1, q, none⟩)), (72, .pointer (some ⟨g2, q - 1, none⟩)), (73, .pointer (some ⟨g2, q, none⟩))].take ((k + 1) / 2)) [70, 71, 72, 73] (chkO_st hnu) ?_ rfl _ rfl (by kernel_rfl) ⟨hS0.mono hbw, hS0.size, mb1, HM.out.to hS0, HS.out, fun a _ c _ b _ h => h⟩ ?_ ?_
        · intro c hc
          have hcc : c = 0 ∨ c = 1 ∨ c = 2 ∨ c = 3 ∨ c = 4 := by omega
          rcases hcc with rfl | rfl | rfl | rfl | rfl <;> exact ⟨by decide, rfl⟩
        · intro c hc
          have hcc : c = 0 ∨ c = 1 ∨ c = 2 ∨ c = 3 := by omega
          rcases hcc with rfl | rfl | rfl | rfl <;> rfl
        · intro c hc k hk
          have hcc : c = 0 ∨ c = 1 ∨ c = 2 ∨ c = 3 := by omega
          rcases hcc with rfl | rfl | rfl | rfl
          · have hk2 : k < 8 := hk
            have hkk : k = 0 ∨ k = 1 ∨ k = 2 ∨ k = 3 ∨ k = 4 ∨ k = 5 ∨ k = 6 ∨ k = 7 := by omega
            rcases hkk with rfl | rfl | rfl | rfl | rfl | rfl | rfl | rfl
            · exact List.forall_mem_cons.2 ⟨.inl ⟨rfl, rfl, rfl, 34, _, _, _, rfl⟩, List.forall_mem_nil _⟩
            · exact List.forall_mem_cons.2 ⟨.inr (.inl ⟨rfl, rfl, rfl, _, _, 34, _, _, _, rfl, by decide, by decide, Try.underlying34, rfl⟩), List.forall_mem_cons.2 ⟨.inr (.inl ⟨rfl, rfl, rfl, _, _, 34, _, _, _, rfl, by decide, by decide, Try.underlying34, rfl⟩), List.forall_mem_nil _⟩⟩
            · exact List.forall_mem_cons.2 ⟨.inr (.inl ⟨rfl, rfl, rfl, _, _, 34, _, _, _, rfl, by decide, by decide, Try.underlying34, rfl⟩), List.forall_mem_nil _⟩
            · exact List.forall_mem_cons.2 ⟨.inr (.inl ⟨rfl, rfl, rfl, _, _, 34, _, _, _, rfl, by decide, by decide, Try.underlying34, rfl⟩), List.forall_mem_nil _⟩
            · exact List.forall_mem_cons.2 ⟨.inr (.inr ⟨rfl, rfl, rfl, _, _, _, _, rfl, rfl⟩), List.forall_mem_nil _⟩
            · exact List.forall_mem_cons.2 ⟨.inr (.inr ⟨rfl, rfl, rfl, _, _, _, _, rfl, rfl⟩), List.forall_mem_nil _⟩
            · exact List.forall_mem_nil _
            · exact List.forall_mem_nil _
          · have hk2 : k < 4 := hk
            have hkk : k = 0 ∨ k = 1 ∨ k = 2 ∨ k = 3 := by omega
            rcases hkk with rfl | rfl | rfl | rfl
            · exact List.forall_mem_cons.2 ⟨.inl ⟨rfl, rfl, rfl, 34, _, _, _, rfl⟩, List.forall_mem_nil _⟩
            · exact List.forall_mem_cons.2 ⟨.inr (.inl ⟨rfl, rfl, rfl, _, _, 34, _, _, _, rfl, by decide, by decide, Try.underlying34, rfl⟩), List.forall_mem_nil _⟩
            · exact List.forall_mem_cons.2 ⟨.inr (.inr ⟨rfl, rfl, rfl, _, _, _, _, rfl, rfl⟩), List.forall_mem_nil _⟩
            · exact List.forall_mem_nil _
          · have hk2 : k < 4 := hk
            have hkk : k = 0 ∨ k = 1 ∨ k = 2 ∨ k = 3 := by omega
            rcases hkk with rfl | rfl | rfl | rfl
            · exact List.forall_mem_cons.2 ⟨.inl ⟨rfl, rfl, rfl, 34, _, _, _, rfl⟩, List.forall_mem_nil _⟩
            · exact List.forall_mem_cons.2 ⟨.inr (.inl ⟨rfl, rfl, rfl, _, _, 34, _, _, _, rfl, by decide, by decide, Try.underlying34, rfl⟩), List.forall_mem_nil _⟩
            · exact List.forall_mem_cons.2 ⟨.inr (.inr ⟨rfl, rfl, rfl, _, _, _, _, rfl, rfl⟩), List.forall_mem_nil _⟩
            · exact List.forall_mem_nil _
          · have hk2 : k < 2 := hk
            have hkk : k = 0 ∨ k = 1 := by omega
            rcases hkk with rfl | rfl
            · exact List.forall_mem_cons.2 ⟨.inl ⟨rfl, rfl, rfl, 34, _, _, _, rfl⟩, List.forall_mem_nil _⟩
            · exact List.forall_mem_nil _
        · intro k y hy
          have h1 := List.mem_of_mem_take hy
          simp only [List.mem_cons, List.not_mem_nil, or_false] at h1
          rcases h1 with rfl | rfl | rfl | rfl <;> simp
        · intro p5 i5 k5 a5 w5 hp5 hv5 hi5 h5
          have h48 : p5 4 < 9 := hp5 4 (by omega)
          have hcc : p5 4 = 0 ∨ p5 4 = 1 ∨ p5 4 = 2 ∨ p5 4 = 3 ∨ p5 4 = 4 ∨ p5 4 = 5 ∨ p5 4 = 6 ∨ p5 4 = 7 ∨ p5 4 = 8 := by omega
          have hfin := finc9 hp5
          rcases hcc with e4 | e4 | e4 | e4 | e4 | e4 | e4 | e4 | e4
          · rw [e4] at hi5
            change (i5, k5) ∈ [(35, 1)] at hi5
            rw [List.mem_singleton] at hi5
            injection hi5 with e5 e6
            subst e5 e6
            refine chI_ptr (t := 70) (v := .pointer (some ⟨g1, q - 1, none⟩)) hPM h5 rfl (fun a w ho => gives_index1 rfl Try.underlying50 (fun w => by kernel_rfl) (eval_tmp ((ho 43 (chkO_spec (by decide)) (by decide)).trans rfl)) (eval_tmp ((ho 45 (chkO_spec (by decide)) (by decide)).trans rfl)) hq1n) ?_ ?_ (by decide) (Nat.le_of_ble_eq_true (by kernel_rfl)) (chkO_st hnu) (fun F z hm => hm.half (by rw [e4]))
            · rw [e4]
              intro y hy
              change y ∈ [(70, .pointer (some ⟨g1, q - 1, none⟩))] at hy
              change y ∈ ([] : List (Nat × Value)) ∨ _
              simp only [List.mem_cons, List.not_mem_nil, or_false, false_or] at hy ⊢
              first | exact hy | (simp only [or_assoc]; exact hy)
            · rw [e4]
              intro y hy
              change y ∈ ([] : List (Nat × Value)) at hy
              simp only [List.mem_cons, List.not_mem_nil, or_false] at hy
              try exact absurd hy (by simp)
          · rw [e4] at hi5
            change (i5, k5) ∈ [(36, 2)] at hi5
            rw [List.mem_singleton] at hi5
            injection hi5 with e5 e6
            subst e5 e6
            have hr5 := vld_fin (j := 0) hv5 (by omega) (by omega)
            refine chI_store (j := 0) (ad := ⟨g1, q - 1, none⟩) hPM h5 rfl (fun w => by kernel_rfl) (fun w => by kernel_rfl) (eval_tmp (h5.ptr (70, .pointer (some ⟨g1, q - 1, none⟩)) (by rw [e4]; exact List.mem_of_getElem? (i := 0) rfl))) (by omega) (fun v h1 h2 => eval_tmp (h2 64 rfl ((hfin 0 (by omega) hr5).2.1 (by intro h; cases h)))) (hfin 0 (by omega) hr5).1 hr5 (by rw [e4] <;> rfl) (fun F hm => hm.cell hq1n hq1n hg1) (fun b F hb hT hF hm => ?_)
            rw [e4] at hm
            exact MB.put (j := 0) hm hbw rfl hq1n hq1n hg1 hb ⟨_, hT, (hfin 0 (by omega) hr5).2.2.1, (hfin 0 (by omega) hr5).2.2.2⟩ hF
          · rw [e4] at hi5
            change (i5, k5) ∈ [(37, 3)] at hi5
            rw [List.mem_singleton] at hi5
            injection hi5 with e5 e6
            subst e5 e6
            refine chI_ptr (t := 71) (v := .pointer (some ⟨g1, q, none⟩)) hPM h5 rfl (fun a w ho => gives_index1 rfl Try.underlying50 (fun w => by kernel_rfl) (eval_tmp ((ho 50 (chkO_spec (by decide)) (by decide)).trans rfl)) (eval_tmp ((ho 51 (chkO_spec (by decide)) (by decide)).trans rfl)) hqn) ?_ ?_ (by decide) (Nat.le_of_ble_eq_true (by kernel_rfl)) (chkO_st hnu) (fun F z hm => hm.half (by rw [e4]))
            · rw [e4]
              intro y hy
              change y ∈ [(70, .pointer (some ⟨g1, q - 1, none⟩)), (71, .pointer (some ⟨g1, q, none⟩))] at hy
              change y ∈ [(70, .pointer (some ⟨g1, q - 1, none⟩))] ∨ _
              simp only [List.mem_cons, List.not_mem_nil, or_false, false_or] at hy ⊢
              first | exact hy | (simp only [or_assoc]; exact hy)
            · rw [e4]
              intro y hy
              change y ∈ [(70, .pointer (some ⟨g1, q - 1, none⟩))] at hy
              simp only [List.mem_cons, List.not_mem_nil, or_false] at hy
              subst hy
              exact (by decide : (70 : Nat) ≠ 71)
          · rw [e4] at hi5
            change (i5, k5) ∈ [(38, 4)] at hi5
            rw [List.mem_singleton] at hi5
            injection hi5 with e5 e6
            subst e5 e6
            have hr5 := vld_fin (j := 1) hv5 (by omega) (by omega)
            refine chI_store (j := 1) (ad := ⟨g1, q, none⟩) hPM h5 rfl (fun w => by kernel_rfl) (fun w => by kernel_rfl) (eval_tmp (h5.ptr (71, .pointer (some ⟨g1, q, none⟩)) (by rw [e4]; exact List.mem_of_getElem? (i := 1) rfl))) (by omega) (fun v h1 h2 => eval_tmp (h2 66 rfl ((hfin 1 (by omega) hr5).2.1 (by intro h; cases h)))) (hfin 1 (by omega) hr5).1 hr5 (by rw [e4] <;> rfl) (fun F hm => hm.cell hq1n hqn hg1) (fun b F hb hT hF hm => ?_)
            rw [e4] at hm
            exact MB.put (j := 1) hm hbw rfl hq1n hqn hg1 hb ⟨_, hT, (hfin 1 (by omega) hr5).2.2.1, (hfin 1 (by omega) hr5).2.2.2⟩ hF
          · rw [e4] at hi5
            change (i5, k5) ∈ [(39, 5)] at hi5
            rw [List.mem_singleton] at hi5
            injection hi5 with e5 e6
            subst e5 e6
            refine chI_ptr (t := 72) (v := .pointer (some ⟨g2, q - 1, none⟩)) hPM h5 rfl (fun a w ho => gives_index1 rfl Try.underlying50 (fun w => by kernel_rfl) (eval_tmp ((ho 55 (chkO_spec (by decide)) (by decide)).trans rfl)) (eval_tmp ((ho 57 (chkO_spec (by decide)) (by decide)).trans rfl)) hq1n) ?_ ?_ (by decide) (Nat.le_of_ble_eq_true (by kernel_rfl)) (chkO_st hnu) (fun F z hm => hm.half (by rw [e4]))
            · rw [e4]
              intro y hy
              change y ∈ [(70, .pointer (some ⟨g1, q - 1, none⟩)), (71, .pointer (some ⟨g1, q, none⟩)), (72, .pointer (some ⟨g2, q - 1, none⟩))] at hy
              change y ∈ [(70, .pointer (some ⟨g1, q - 1, none⟩)), (71, .pointer (some ⟨g1, q, none⟩))] ∨ _
              simp only [List.mem_cons, List.not_mem_nil, or_false, false_or] at hy ⊢
              first | exact hy | (simp only [or_assoc]; exact hy)
            · rw [e4]
              intro y hy
              change y ∈ [(70, .pointer (some ⟨g1, q - 1, none⟩)), (71, .pointer (some ⟨g1, q, none⟩))] at hy
              simp only [List.mem_cons, List.not_mem_nil, or_false] at hy
              rcases hy with rfl | rfl
              · exact (by decide : (70 : Nat) ≠ 72)
              · exact (by decide : (71 : Nat) ≠ 72)
          · rw [e4] at hi5
            change (i5, k5) ∈ [(40, 6)] at hi5
            rw [List.mem_singleton] at hi5
            injection hi5 with e5 e6
            subst e5 e6
            have hr5 := vld_fin (j := 2) hv5 (by omega) (by omega)
            refine chI_store (j := 2) (ad := ⟨g2, q - 1, none⟩) hPM h5 rfl (fun w => by kernel_rfl) (fun w => by kernel_rfl) (eval_tmp (h5.ptr (72, .pointer (some ⟨g2, q - 1, none⟩)) (by rw [e4]; exact List.mem_of_getElem? (i := 2) rfl))) (by omega) (fun v h1 h2 => eval_tmp (h2 68 rfl ((hfin 2 (by omega) hr5).2.1 (by intro h; cases h)))) (hfin 2 (by omega) hr5).1 hr5 (by rw [e4] <;> rfl) (fun F hm => hm.cell hqn hq1n hg2) (fun b F hb hT hF hm => ?_)
            rw [e4] at hm
            exact MB.put (j := 2) hm hbw rfl hqn hq1n hg2 hb ⟨_, hT, (hfin 2 (by omega) hr5).2.2.1, (hfin 2 (by omega) hr5).2.2.2⟩ hF
          · rw [e4] at hi5
            change (i5, k5) ∈ [(41, 7)] at hi5
            rw [List.mem_singleton] at hi5
            injection hi5 with e5 e6
            subst e5 e6
            refine chI_ptr (t := 73) (v := .pointer (some ⟨g2, q, none⟩)) hPM h5 rfl (fun a w ho => gives_index1 rfl Try.underlying50 (fun w => by kernel_rfl) (eval_tmp ((ho 61 (chkO_spec (by decide)) (by decide)).trans rfl)) (eval_tmp ((ho 62 (chkO_spec (by decide)) (by decide)).trans rfl)) hqn) ?_ ?_ (by decide) (Nat.le_of_ble_eq_true (by kernel_rfl)) (chkO_st hnu) (fun F z hm => hm.half (by rw [e4]))
            · rw [e4]
              intro y hy
              change y ∈ [(70, .pointer (some ⟨g1, q - 1, none⟩)), (71, .pointer (some ⟨g1, q, none⟩)), (72, .pointer (some ⟨g2, q - 1, none⟩)), (73, .pointer (some ⟨g2, q, none⟩))] at hy
              change y ∈ [(70, .pointer (some ⟨g1, q - 1, none⟩)), (71, .pointer (some ⟨g1, q, none⟩)), (72, .pointer (some ⟨g2, q - 1, none⟩))] ∨ _
              simp only [List.mem_cons, List.not_mem_nil, or_false, false_or] at hy ⊢
              first | exact hy | (simp only [or_assoc]; exact hy)
            · rw [e4]
              intro y hy
              change y ∈ [(70, .pointer (some ⟨g1, q - 1, none⟩)), (71, .pointer (some ⟨g1, q, none⟩)), (72, .pointer (some ⟨g2, q - 1, none⟩))] at hy
              simp only [List.mem_cons, List.not_mem_nil, or_false] at hy
              rcases hy with rfl | rfl | rfl
              · exact (by decide : (70 : Nat) ≠ 73)
              · exact (by decide : (71 : Nat) ≠ 73)
              · exact (by decide : (72 : Nat) ≠ 73)
          · rw [e4] at hi5
            change (i5, k5) ∈ [(42, 8)] at hi5
            rw [List.mem_singleton] at hi5
            injection hi5 with e5 e6
            subst e5 e6
            have hr5 := vld_fin (j := 3) hv5 (by omega) (by omega)
            refine chI_store (j := 3) (ad := ⟨g2, q, none⟩) hPM h5 rfl (fun w => by kernel_rfl) (fun w => by kernel_rfl) (eval_tmp (h5.ptr (73, .pointer (some ⟨g2, q, none⟩)) (by rw [e4]; exact List.mem_of_getElem? (i := 3) rfl))) (by omega) (fun v h1 h2 => eval_tmp (h1)) (hfin 3 (by omega) hr5).1 hr5 (by rw [e4] <;> rfl) (fun F hm => hm.cell hqn hqn hg2) (fun b F hb hT hF hm => ?_)
            rw [e4] at hm
            exact MB.put (j := 3) hm hbw rfl hqn hqn hg2 hb ⟨_, hT, (hfin 3 (by omega) hr5).2.2.1, (hfin 3 (by omega) hr5).2.2.2⟩ hF
          · rw [e4] at hi5
            cases hi5
        intro p5 a5 w5 hp5 hr5 hI
        have hfin := finc9 hp5
        obtain ⟨b, ha5⟩ := hI.act rfl (by kernel_rfl) (fun c hc => (hfin c hc (hr5 c (by omega))).1) (fun c hc => (hfin c hc (hr5 c (by omega))).2.1) (chkO_st hnu) (by rw [(endc9 hp5).2.2.2.2 (hr5 4 (by omega))]; rfl) (by decide) (fun t ht => Nat.lt_of_lt_of_le (hst9 t ht) (Nat.le_of_ble_eq_true (by kernel_rfl)))
        obtain ⟨b9, _, _, hMB⟩ := hI.maps
        rw [(endc9 hp5).2.2.2.2 (hr5 4 (by omega))] at hMB ha5
        obtain ⟨hw5, hz5, mb9, hM9, hS9, _⟩ := hMB
        rw [lstc9 hp5 hr5]
        refine wpAnyH_done (by kernel_rfl) (noPanic_mk ?_) _
        subst ha5
        clear hI hr5 hp5 hfin
        generalize b 0 = b0
        generalize b 1 = b1
        generalize b 2 = b2
        generalize b 3 = b3
        skip
        show Exit.inBlock _ _ Exit.normal (Act.put (Act.put (Act.put (Act.put (Act.put (Act.put (Act.put (Act.put (Act.put (Act.put (Act.put _ (some 63) (.map (some b0))) (some 64) (.map (some b0))) (some 65) (.map (some b1))) (some 66) (.map (some b1))) (some 67) (.map (some b2))) (some 68) (.map (some b2))) (some 69) (.map (some b3))) (some 70) (.pointer (some ⟨g1, q - 1, none⟩))) (some 71) (.pointer (some ⟨g1, q, none⟩))) (some 72) (.pointer (some ⟨g2, q - 1, none⟩))) (some 73) (.pointer (some ⟨g2, q, none⟩))) _
        go_frame
        have hz := set4_pos HE0.out hp
        rw [HQ.out] at hz
        have HZ9 := hide ((show EqM n (zst Z1 (pi4 q) ec9 (8 / 2)) (bl x) from hz).trans (EqM.mul_one n (bl x)).symm)
        have HM9 := hide hM9
        have HS9 := hide hS9
        have HW9 := hide (HW.out.trans hw5)
        clear hz hM9 hS9 hw5 hz5 hg1 hg2 hlt9 hPM hT0 hS0 hoc1 hoc2 hcl hq0 hqn hq1n HO1 HO2 HG1 HG2 hqw HQW HQ HIX
        generalize zst Z1 (pi4 q) ec9 (8 / 2) = Z9 at HM9 HZ9
        go_wp2_with fail
        go_roundw
        case rel => exact ⟨1, mb9, Z9, by go_num, by omega, HM9, HS9, HZ9, HW9⟩
        case measure => simp [intOf]; omega
      · have hp2 : x < 0 := by omega
        go_wp2_with fail
        refine (HIX.out _).mono ?_
        rintro e w' ⟨rfl, rfl⟩
        have hoc1 := HO1.out
        have hoc2 := HO2.out
        have hqw := HQW.out
        go_upto_region 10 with fail
        refine wp_region_noPanic ?_
        have hS0 : Below wr.heap.size wr wr.drew := (Below.refl _ _).drew
        refine wp_region_held_drew (S := fun z => Below w.heap.size wr z ∧ z.cell? ⟨go, (q - 1) * 1, none⟩ = some (.slice (some ⟨g1, 0, none⟩) n n) ∧ z.cell? ⟨go, q * 1, none⟩ = some (.slice (some ⟨g2, 0, none⟩) n n)) (by kernel_rfl) ⟨hS0.mono hbw, hoc1, hoc2⟩ (fun hT0 => ?_)
        refine wpAnyH_tk 0 (v := .slice (some ⟨go, 0, none⟩) n n) rfl (by kernel_rfl) (by kernel_rfl) (by kernel_rfl) (yi rfl fun w' hw' => gives_move (.inl rfl) rfl) hT0 ?_
        go_frame
        refine wpAnyH_tk 1 (v := .int .i64 q) rfl (by kernel_rfl) (by kernel_rfl) (by kernel_rfl) (yi rfl fun w' hw' => gives_move (.inl rfl) rfl) hT0 ?_
        go_frame
        refine wpAnyH_tk 2 (v := .int .i64 ((q - 1 : Nat) : Int)) rfl (by kernel_rfl) (by kernel_rfl) (by kernel_rfl) (yi rfl fun w' hw' => gives_sub rfl rfl rfl hqw) hT0 ?_
        go_frame
        refine wpAnyH_tk 3 (v := .pointer (some ⟨go, (q - 1) * 1, none⟩)) rfl (by kernel_rfl) (by kernel_rfl) (by kernel_rfl) (yi rfl fun w' hw' => gives_indexB rfl Try.underlying36 (fun w => by kernel_rfl) rfl rfl hq1n) hT0 ?_
        go_frame
        refine wpAnyH_tk 4 (v := .slice (some ⟨g1, 0, none⟩) n n) rfl (by kernel_rfl) (by kernel_rfl) (by kernel_rfl) (yi rfl fun w' hw' => gives_load1 rfl (by kernel_rfl) rfl hw'.2.1) hT0 ?_
        go_frame
        refine wpAnyH_tk 5 (v := .int .i64 q) rfl (by kernel_rfl) (by kernel_rfl) (by kernel_rfl) (yi rfl fun w' hw' => gives_move (.inl rfl) rfl) hT0 ?_
        go_frame
        refine wpAnyH_tk 6 (v := .int .i64 ((q - 1 : Nat) : Int)) rfl (by kernel_rfl) (by kernel_rfl) (by kernel_rfl) (yi rfl fun w' hw' => gives_sub rfl rfl rfl hqw) hT0 ?_
        go_frame
        refine wpAnyH_tk 7 (v := .slice (some ⟨go, 0, none⟩) n n) rfl (by kernel_rfl) (by kernel_rfl) (by kernel_rfl) (yi rfl fun w' hw' => gives_move (.inl rfl) rfl) hT0 ?_
        go_frame
        refine wpAnyH_tk 8 (v := .int .i64 q) rfl (by kernel_rfl) (by kernel_rfl) (by kernel_rfl) (yi rfl fun w' hw' => gives_move (.inl rfl) rfl) hT0 ?_
        go_frame
        refine wpAnyH_tk 9 (v := .int .i64 ((q - 1 : Nat) : Int)) rfl (by kernel_rfl) (by kernel_rfl) (by kernel_rfl) (yi rfl fun w' hw' => gives_sub rfl rfl rfl hqw) hT0 ?_
        go_frame
        refine wpAnyH_tk 10 (v := .pointer (some ⟨go, (q - 1) * 1, none⟩)) rfl (by kernel_rfl) (by kernel_rfl) (by kernel_rfl) (yi rfl fun w' hw' => gives_indexB rfl Try.underlying36 (fun w => by kernel_rfl) rfl rfl hq1n) hT0 ?_
        go_frame
        refine wpAnyH_tk 11 (v := .slice (some ⟨g1, 0, none⟩) n n) rfl (by kernel_rfl) (by kernel_rfl) (by kernel_rfl) (yi rfl fun w' hw' => gives_load1 rfl (by kernel_rfl) rfl hw'.2.1) hT0 ?_
        go_frame
        refine wpAnyH_tk 12 (v := .int .i64 q) rfl (by kernel_rfl) (by kernel_rfl) (by kernel_rfl) (yi rfl fun w' hw' => gives_move (.inl rfl) rfl) hT0 ?_
        go_frame
        refine wpAnyH_tk 13 (v := .slice (some ⟨go, 0, none⟩) n n) rfl (by kernel_rfl) (by kernel_rfl) (by kernel_rfl) (yi rfl fun w' hw' => gives_move (.inl rfl) rfl) hT0 ?_
        go_frame
        refine wpAnyH_tk 14 (v := .int .i64 q) rfl (by kernel_rfl) (by kernel_rfl) (by kernel_rfl) (yi rfl fun w' hw' => gives_move (.inl rfl) rfl) hT0 ?_
        go_frame
        refine wpAnyH_tk 15 (v := .pointer (some ⟨go, q * 1, none⟩)) rfl (by kernel_rfl) (by kernel_rfl) (by kernel_rfl) (yi rfl fun w' hw' => gives_indexB rfl Try.underlying36 (fun w => by kernel_rfl) rfl rfl hqn) hT0 ?_
        go_frame
        refine wpAnyH_tk 16 (v := .slice (some ⟨g2, 0, none⟩) n n) rfl (by kernel_rfl) (by kernel_rfl) (by kernel_rfl) (yi rfl fun w' hw' => gives_load1 rfl (by kernel_rfl) rfl hw'.2.2) hT0 ?_
        go_frame
        refine wpAnyH_tk 17 (v := .int .i64 q) rfl (by kernel_rfl) (by kernel_rfl) (by kernel_rfl) (yi rfl fun w' hw' => gives_move (.inl rfl) rfl) hT0 ?_
        go_frame
        refine wpAnyH_tk 18 (v := .int .i64 ((q - 1 : Nat) : Int)) rfl (by kernel_rfl) (by kernel_rfl) (by kernel_rfl) (yi rfl fun w' hw' => gives_sub rfl rfl rfl hqw) hT0 ?_
        go_frame
        refine wpAnyH_tk 19 (v := .slice (some ⟨go, 0, none⟩) n n) rfl (by kernel_rfl) (by kernel_rfl) (by kernel_rfl) (yi rfl fun w' hw' => gives_move (.inl rfl) rfl) hT0 ?_
        go_frame
        refine wpAnyH_tk 20 (v := .int .i64 q) rfl (by kernel_rfl) (by kernel_rfl) (by kernel_rfl) (yi rfl fun w' hw' => gives_move (.inl rfl) rfl) hT0 ?_
        go_frame
        refine wpAnyH_tk 21 (v := .pointer (some ⟨go, q * 1, none⟩)) rfl (by kernel_rfl) (by kernel_rfl) (by kernel_rfl) (yi rfl fun w' hw' => gives_indexB rfl Try.underlying36 (fun w => by kernel_rfl) rfl rfl hqn) hT0 ?_
        go_frame
        refine wpAnyH_tk 22 (v := .slice (some ⟨g2, 0, none⟩) n n) rfl (by kernel_rfl) (by kernel_rfl) (by kernel_rfl) (yi rfl fun w' hw' => gives_load1 rfl (by kernel_rfl) rfl hw'.2.2) hT0 ?_
        go_frame
        refine wpAnyH_tk 23 (v := .int .i64 q) rfl (by kernel_rfl) (by kernel_rfl) (by kernel_rfl) (yi rfl fun w' hw' => gives_move (.inl rfl) rfl) hT0 ?_
        go_frame
        have hg1 := HG1.out
        have hg2 := HG2.out
        have hlt9 : ∀ i, i < n → ∀ g, gr i = some g → g < wr.heap.size := fun i hi g hg => (HM.out.rowLt hi hg).2
        have hPM := phB (Z := Z1) (e := ec10) hbw hgo hlt9 hq1n hqn hg1 hg2
        refine wpAnyH_listed (l' := lst c10 43 24 fun _ => 0) (fuel' := 0 + sumC (fun c => (c10 c).R) 5) (by kernel_rfl) (by kernel_rfl) ?_
        have hnu : ∀ u ∈ [105, 106, 107, 108], chkO c10 u = true := by decide
        have hst9 : ∀ t ∈ [105, 106, 107, 108], t < 109 := by decide
        refine wpAnyH_five (base := wr.heap.size) hPM c10 43 24 0 _ _ nsc10 (by kernel_rfl) (by kernel_rfl) (by omega) chkc10 chkTc10 ?_ ?_ (by kernel_rfl) ?_ (fun k => [(105, .pointer (some ⟨g1, q - 1, none⟩)), (106, .pointer (some ⟨g1, q, none⟩)), (107, .pointer (some ⟨g2, q - 1, none⟩)), (108, .pointer (some ⟨g2, q, none⟩))].take ((k + 1) / 2)) [105, 106, 107, 108] (chkO_st hnu) ?_ rfl _ rfl (by kernel_rfl) ⟨hS0.mono hbw, hS0.size, mb1, HM.out.to hS0, HS.out, fun a _ c _ b _ h => h⟩ ?_ ?_
        · intro c hc
          have hcc : c = 0 ∨ c = 1 ∨ c = 2 ∨ c = 3 ∨ c = 4 := by omega
          rcases hcc with rfl | rfl | rfl | rfl | rfl <;> exact ⟨by decide, rfl⟩
        · intro c hc
          have hcc : c = 0 ∨ c = 1 ∨ c = 2 ∨ c = 3 := by omega
          rcases hcc with rfl | rfl | rfl | rfl <;> rfl
        · intro c hc k hk
          have hcc : c = 0 ∨ c = 1 ∨ c = 2 ∨ c = 3 := by omega
          rcases hcc with rfl | rfl | rfl | rfl
          · have hk2 : k < 2 := hk
            have hkk : k = 0 ∨ k = 1 := by omega
            rcases hkk with rfl | rfl
            · exact List.forall_mem_cons.2 ⟨.inl ⟨rfl, rfl, rfl, 34, _, _, _, rfl⟩, List.forall_mem_nil _⟩
            · exact List.forall_mem_nil _
          · have hk2 : k < 4 := hk
            have hkk : k = 0 ∨ k = 1 ∨ k = 2 ∨ k = 3 := by omega
            rcases hkk with rfl | rfl | rfl | rfl
            · exact List.forall_mem_cons.2 ⟨.inl ⟨rfl, rfl, rfl, 34, _, _, _, rfl⟩, List.forall_mem_nil _⟩
            · exact List.forall_mem_cons.2 ⟨.inr (.inl ⟨rfl, rfl, rfl, _, _, 34, _, _, _, rfl, by decide, by decide, Try.underlying34, rfl⟩), List.forall_mem_nil _⟩
            · exact List.forall_mem_cons.2 ⟨.inr (.inr ⟨rfl, rfl, rfl, _, _, _, _, rfl, rfl⟩), List.forall_mem_nil _⟩
            · exact List.forall_mem_nil _
          · have hk2 : k < 4 := hk
            have hkk : k = 0 ∨ k = 1 ∨ k = 2 ∨ k = 3 := by omega
            rcases hkk with rfl | rfl | rfl | rfl
            · exact List.forall_mem_cons.2 ⟨.inl ⟨rfl, rfl, rfl, 34, _, _, _, rfl⟩, List.forall_mem_nil _⟩
            · exact List.forall_mem_cons.2 ⟨.inr (.inl ⟨rfl, rfl, rfl, _, _, 34, _, _, _, rfl, by decide, by decide, Try.underlying34, rfl⟩), List.forall_mem_nil _⟩
            · exact List.forall_mem_cons.2 ⟨.inr (.inr ⟨rfl, rfl, rfl, _, _, _, _, rfl, rfl⟩), List.forall_mem_nil _⟩
            · exact List.forall_mem_nil _
          · have hk2 : k < 8 := hk
            have hkk : k = 0 ∨ k = 1 ∨ k = 2 ∨ k = 3 ∨ k = 4 ∨ k = 5 ∨ k = 6 ∨ k = 7 := by omega
            rcases hkk with rfl | rfl | rfl | rfl | rfl | rfl | rfl | rfl
            · exact List.forall_mem_cons.2 ⟨.inl ⟨rfl, rfl, rfl, 34, _, _, _, rfl⟩, List.forall_mem_nil _⟩
            · exact List.forall_mem_cons.2 ⟨.inr (.inl ⟨rfl, rfl, rfl, _, _, 34, _, _, _, rfl, by decide, by decide, Try.underlying34, rfl⟩), List.forall_mem_cons.2 ⟨.inr (.inl ⟨rfl, rfl, rfl, _, _, 34, _, _, _, rfl, by decide, by decide, Try.underlying34, rfl⟩), List.forall_mem_nil _⟩⟩
            · exact List.forall_mem_cons.2 ⟨.inr (.inl ⟨rfl, rfl, rfl, _, _, 34, _, _, _, rfl, by decide, by decide, Try.underlying34, rfl⟩), List.forall_mem_nil _⟩
            · exact List.forall_mem_cons.2 ⟨.inr (.inl ⟨rfl, rfl, rfl, _, _, 34, _, _, _, rfl, by decide, by decide, Try.underlying34, rfl⟩), List.forall_mem_nil _⟩
            · exact List.forall_mem_cons.2 ⟨.inr (.inr ⟨rfl, rfl, rfl, _, _, _, _, rfl, rfl⟩), List.forall_mem_nil _⟩
            · exact List.forall_mem_cons.2 ⟨.inr (.inr ⟨rfl, rfl, rfl, _, _, _, _, rfl, rfl⟩), List.forall_mem_nil _⟩
            · exact List.forall_mem_nil _
            · exact List.forall_mem_nil _
        · intro k y hy
          have h1 := List.mem_of_mem_take hy
          simp only [List.mem_cons, List.not_mem_nil, or_false] at h1
          rcases h1 with rfl | rfl | rfl | rfl <;> simp
        · intro p5 i5 k5 a5 w5 hp5 hv5 hi5 h5
          have h48 : p5 4 < 9 := hp5 4 (by omega)
          have hcc : p5 4 = 0 ∨ p5 4 = 1 ∨ p5 4 = 2 ∨ p5 4 = 3 ∨ p5 4 = 4 ∨ p5 4 = 5 ∨ p5 4 = 6 ∨ p5 4 = 7 ∨ p5 4 = 8 := by omega
          have hfin := finc10 hp5
          rcases hcc with e4 | e4 | e4 | e4 | e4 | e4 | e4 | e4 | e4
          · rw [e4] at hi5
            change (i5, k5) ∈ [(35, 1)] at hi5
            rw [List.mem_singleton] at hi5
            injection hi5 with e5 e6
            subst e5 e6
            refine chI_ptr (t := 105) (v := .pointer (some ⟨g1, q - 1, none⟩)) hPM h5 rfl (fun a w ho => gives_index1 rfl Try.underlying50 (fun w => by kernel_rfl) (eval_tmp ((ho 78 (chkO_spec (by decide)) (by decide)).trans rfl)) (eval_tmp ((ho 80 (chkO_spec (by decide)) (by decide)).trans rfl)) hq1n) ?_ ?_ (by decide) (Nat.le_of_ble_eq_true (by kernel_rfl)) (chkO_st hnu) (fun F z hm => hm.half (by rw [e4]))
            · rw [e4]
              intro y hy
              change y ∈ [(105, .pointer (some ⟨g1, q - 1, none⟩))] at hy
              change y ∈ ([] : List (Nat × Value)) ∨ _
              simp only [List.mem_cons, List.not_mem_nil, or_false, false_or] at hy ⊢
              first | exact hy | (simp only [or_assoc]; exact hy)
            · rw [e4]
              intro y hy
              change y ∈ ([] : List (Nat × Value)) at hy
              simp only [List.mem_cons, List.not_mem_nil, or_false] at hy
              try exact absurd hy (by simp)
          · rw [e4] at hi5
            change (i5, k5) ∈ [(36, 2)] at hi5
            rw [List.mem_singleton] at hi5
            injection hi5 with e5 e6
            subst e5 e6
            have hr5 := vld_fin (j := 0) hv5 (by omega) (by omega)
            refine chI_store (j := 0) (ad := ⟨g1, q - 1, none⟩) hPM h5 rfl (fun w => by kernel_rfl) (fun w => by kernel_rfl) (eval_tmp (h5.ptr (105, .pointer (some ⟨g1, q - 1, none⟩)) (by rw [e4]; exact List.mem_of_getElem? (i := 0) rfl))) (by omega) (fun v h1 h2 => eval_tmp (h1)) (hfin 0 (by omega) hr5).1 hr5 (by rw [e4] <;> rfl) (fun F hm => hm.cell hq1n hq1n hg1) (fun b F hb hT hF hm => ?_)
            rw [e4] at hm
            exact MB.put (j := 0) hm hbw rfl hq1n hq1n hg1 hb ⟨_, hT, (hfin 0 (by omega) hr5).2.2.1, (hfin 0 (by omega) hr5).2.2.2⟩ hF
          · rw [e4] at hi5
            change (i5, k5) ∈ [(37, 3)] at hi5
            rw [List.mem_singleton] at hi5
            injection hi5 with e5 e6
            subst e5 e6
            refine chI_ptr (t := 106) (v := .pointer (some ⟨g1, q, none⟩)) hPM h5 rfl (fun a w ho => gives_index1 rfl Try.underlying50 (fun w => by kernel_rfl) (eval_tmp ((ho 85 (chkO_spec (by decide)) (by decide)).trans rfl)) (eval_tmp ((ho 86 (chkO_spec (by decide)) (by decide)).trans rfl)) hqn) ?_ ?_ (by decide) (Nat.le_of_ble_eq_true (by kernel_rfl)) (chkO_st hnu) (fun F z hm => hm.half (by rw [e4]))
            · rw [e4]
              intro y hy
              change y ∈ [(105, .pointer (some ⟨g1, q - 1, none⟩)), (106, .pointer (some ⟨g1, q, none⟩))] at hy
              change y ∈ [(105, .pointer (some ⟨g1, q - 1, none⟩))] ∨ _
              simp only [List.mem_cons, List.not_mem_nil, or_false, false_or] at hy ⊢
              first | exact hy | (simp only [or_assoc]; exact hy)
            · rw [e4]
              intro y hy
              change y ∈ [(105, .pointer (some ⟨g1, q - 1, none⟩))] at hy
              simp only [List.mem_cons, List.not_mem_nil, or_false] at hy
              subst hy
              exact (by decide : (105 : Nat) ≠ 106)
          · rw [e4] at hi5
            change (i5, k5) ∈ [(38, 4)] at hi5
            rw [List.mem_singleton] at hi5
            injection hi5 with e5 e6
            subst e5 e6
            have hr5 := vld_fin (j := 1) hv5 (by omega) (by omega)
            refine chI_store (j := 1) (ad := ⟨g1, q, none⟩) hPM h5 rfl (fun w => by kernel_rfl) (fun w => by kernel_rfl) (eval_tmp (h5.ptr (106, .pointer (some ⟨g1, q, none⟩)) (by rw [e4]; exact List.mem_of_getElem? (i := 1) rfl))) (by omega) (fun v h1 h2 => eval_tmp (h2 100 rfl ((hfin 1 (by omega) hr5).2.1 (by intro h; cases h)))) (hfin 1 (by omega) hr5).1 hr5 (by rw [e4] <;> rfl) (fun F hm => hm.cell hq1n hqn hg1) (fun b F hb hT hF hm => ?_)
            rw [e4] at hm
            exact MB.put (j := 1) hm hbw rfl hq1n hqn hg1 hb ⟨_, hT, (hfin 1 (by omega) hr5).2.2.1, (hfin 1 (by omega) hr5).2.2.2⟩ hF
          · rw [e4] at hi5
            change (i5, k5) ∈ [(39, 5)] at hi5
            rw [List.mem_singleton] at hi5
            injection hi5 with e5 e6
            subst e5 e6
            refine chI_ptr (t := 107) (v := .pointer (some ⟨g2, q - 1, none⟩)) hPM h5 rfl (fun a w ho => gives_index1 rfl Try.underlying50 (fun w => by kernel_rfl) (eval_tmp ((ho 90 (chkO_spec (by decide)) (by decide)).trans rfl)) (eval_tmp ((ho 92 (chkO_spec (by decide)) (by decide)).trans rfl)) hq1n) ?_ ?_ (by decide) (Nat.le_of_ble_eq_true (by kernel_rfl)) (chkO_st hnu) (fun F z hm => hm.half (by rw [e4]))
            · rw [e4]
              intro y hy
              change y ∈ [(105, .pointer (some ⟨g1, q - 1, none⟩)), (106, .pointer (some ⟨g1, q, none⟩)), (107, .pointer (some ⟨g2, q - 1, none⟩))] at hy
              change y ∈ [(105, .pointer (some ⟨g1, q - 1, none⟩)), (106, .pointer (some ⟨g1, q, none⟩))] ∨ _
              simp only [List.mem_cons, List.not_mem_nil, or_false, false_or] at hy ⊢
              first | exact hy | (simp only [or_assoc]; exact hy)
            · rw [e4]
              intro y hy
              change y ∈ [(105, .pointer (some ⟨g1, q - 1, none⟩)), (106, .pointer (some ⟨g1, q, none⟩))] at hy
              simp only [List.mem_cons, List.not_mem_nil, or_false] at hy
              rcases hy with rfl | rfl
              · exact (by decide : (105 : Nat) ≠ 107)
              · exact (by decide : (106 : Nat) ≠ 107)
          · rw [e4] at hi5
            change (i5, k5) ∈ [(40, 6)] at hi5
            rw [List.mem_singleton] at hi5
            injection hi5 with e5 e6
            subst e5 e6
            have hr5 := vld_fin (j := 2) hv5 (by omega) (by omega)
            refine chI_store (j := 2) (ad := ⟨g2, q - 1, none⟩) hPM h5 rfl (fun w => by kernel_rfl) (fun w => by kernel_rfl) (eval_tmp (h5.ptr (107, .pointer (some ⟨g2, q - 1, none⟩)) (by rw [e4]; exact List.mem_of_getElem? (i := 2) rfl))) (by omega) (fun v h1 h2 => eval_tmp (h2 102 rfl ((hfin 2 (by omega) hr5).2.1 (by intro h; cases h)))) (hfin 2 (by omega) hr5).1 hr5 (by rw [e4] <;> rfl) (fun F hm => hm.cell hqn hq1n hg2) (fun b F hb hT hF hm => ?_)
            rw [e4] at hm
            exact MB.put (j := 2) hm hbw rfl hqn hq1n hg2 hb ⟨_, hT, (hfin 2 (by omega) hr5).2.2.1, (hfin 2 (by omega) hr5).2.2.2⟩ hF
          · rw [e4] at hi5
            change (i5, k5) ∈ [(41, 7)] at hi5
            rw [List.mem_singleton] at hi5
            injection hi5 with e5 e6
            subst e5 e6
            refine chI_ptr (t := 108) (v := .pointer (some ⟨g2, q, none⟩)) hPM h5 rfl (fun a w ho => gives_index1 rfl Try.underlying50 (fun w => by kernel_rfl) (eval_tmp ((ho 96 (chkO_spec (by decide)) (by decide)).trans rfl)) (eval_tmp ((ho 97 (chkO_spec (by decide)) (by decide)).trans rfl)) hqn) ?_ ?_ (by decide) (Nat.le_of_ble_eq_true (by kernel_rfl)) (chkO_st hnu) (fun F z hm => hm.half (by rw [e4]))
            · rw [e4]
              intro y hy
              change y ∈ [(105, .pointer (some ⟨g1, q - 1, none⟩)), (106, .pointer (some ⟨g1, q, none⟩)), (107, .pointer (some ⟨g2, q - 1, none⟩)), (108, .pointer (some ⟨g2, q, none⟩))] at hy
              change y ∈ [(105, .pointer (some ⟨g1, q - 1, none⟩)), (106, .pointer (some ⟨g1, q, none⟩)), (107, .pointer (some ⟨g2, q - 1, none⟩))] ∨ _
              simp only [List.mem_cons, List.not_mem_nil, or_false, false_or] at hy ⊢
              first | exact hy | (simp only [or_assoc]; exact hy)
            · rw [e4]
              intro y hy
              change y ∈ [(105, .pointer (some ⟨g1, q - 1, none⟩)), (106, .pointer (some ⟨g1, q, none⟩)), (107, .pointer (some ⟨g2, q - 1, none⟩))] at hy
              simp only [List.mem_cons, List.not_mem_nil, or_false] at hy
              rcases hy with rfl | rfl | rfl
              · exact (by decide : (105 : Nat) ≠ 108)
              · exact (by decide : (106 : Nat) ≠ 108)
              · exact (by decide : (107 : Nat) ≠ 108)
          · rw [e4] at hi5
            change (i5, k5) ∈ [(42, 8)] at hi5
            rw [List.mem_singleton] at hi5
            injection hi5 with e5 e6
            subst e5 e6
            have hr5 := vld_fin (j := 3) hv5 (by omega) (by omega)
            refine chI_store (j := 3) (ad := ⟨g2, q, none⟩) hPM h5 rfl (fun w => by kernel_rfl) (fun w => by kernel_rfl) (eval_tmp (h5.ptr (108, .pointer (some ⟨g2, q, none⟩)) (by rw [e4]; exact List.mem_of_getElem? (i := 3) rfl))) (by omega) (fun v h1 h2 => eval_tmp (h2 104 rfl ((hfin 3 (by omega) hr5).2.1 (by intro h; cases h)))) (hfin 3 (by omega) hr5).1 hr5 (by rw [e4] <;> rfl) (fun F hm => hm.cell hqn hqn hg2) (fun b F hb hT hF hm => ?_)
            rw [e4] at hm
            exact MB.put (j := 3) hm hbw rfl hqn hqn hg2 hb ⟨_, hT, (hfin 3 (by omega) hr5).2.2.1, (hfin 3 (by omega) hr5).2.2.2⟩ hF
          · rw [e4] at hi5
            cases hi5
        intro p5 a5 w5 hp5 hr5 hI
        have hfin := finc10 hp5
        obtain ⟨b, ha5⟩ := hI.act rfl (by kernel_rfl) (fun c hc => (hfin c hc (hr5 c (by omega))).1) (fun c hc => (hfin c hc (hr5 c (by omega))).2.1) (chkO_st hnu) (by rw [(endc10 hp5).2.2.2.2 (hr5 4 (by omega))]; rfl) (by decide) (fun t ht => Nat.lt_of_lt_of_le (hst9 t ht) (Nat.le_of_ble_eq_true (by kernel_rfl)))
        obtain ⟨b9, _, _, hMB⟩ := hI.maps
        rw [(endc10 hp5).2.2.2.2 (hr5 4 (by omega))] at hMB ha5
        obtain ⟨hw5, hz5, mb9, hM9, hS9, _⟩ := hMB
        rw [lstc10 hp5 hr5]
        refine wpAnyH_done (by kernel_rfl) (noPanic_mk ?_) _
        subst ha5
        clear hI hr5 hp5 hfin
        generalize b 0 = b0
        generalize b 1 = b1
        generalize b 2 = b2
        generalize b 3 = b3
        skip
        show Exit.inBlock _ _ Exit.normal (Act.put (Act.put (Act.put (Act.put (Act.put (Act.put (Act.put (Act.put (Act.put (Act.put (Act.put _ (some 98) (.map (some b0))) (some 99) (.map (some b1))) (some 100) (.map (some b1))) (some 101) (.map (some b2))) (some 102) (.map (some b2))) (some 103) (.map (some b3))) (some 104) (.map (some b3))) (some 105) (.pointer (some ⟨g1, q - 1, none⟩))) (some 106) (.pointer (some ⟨g1, q, none⟩))) (some 107) (.pointer (some ⟨g2, q - 1, none⟩))) (some 108) (.pointer (some ⟨g2, q, none⟩))) _
        go_frame
        have hz := set4_neg HE0.out hp2
        rw [HQ.out] at hz
        have HZ9 := hide ((show EqM n (zst Z1 (pi4 q) ec10 (8 / 2)) (bl x) from hz).trans (EqM.mul_one n (bl x)).symm)
        have HM9 := hide hM9
        have HS9 := hide hS9
        have HW9 := hide (HW.out.trans hw5)
        clear hz hM9 hS9 hw5 hz5 hg1 hg2 hlt9 hPM hT0 hS0 hoc1 hoc2 hcl hq0 hqn hq1n HO1 HO2 HG1 HG2 hqw HQW HQ HIX
        generalize zst Z1 (pi4 q) ec10 (8 / 2) = Z9 at HM9 HZ9
        go_wp2_with fail
        go_roundw
        case rel => exact ⟨1, mb9, Z9, by go_num, by omega, HM9, HS9, HZ9, HW9⟩
        case measure => simp [intOf]; omega
    · obtain rfl : k = l := by omega
      have HZ2 : Hid (EqM n Z1 (bu n xs)) := hide (by have h := HZ.out; rw [List.take_of_length_le (by rw [HL.out]; exact Nat.le_refl _)] at h; exact h)
      clear HZ
      go_wp2_with fail
      go_ret
      exact ⟨go, gr, mb1, rfl, (HM.out.congr (fun _ _ => rfl) (fun _ _ _ _ => rfl) (fun i hi j hj _ _ => HZ2.out i hi j hj)), HG.out, HS.out, HW.out⟩

end Go.Proofs.Ytgbipfohcailnaa
