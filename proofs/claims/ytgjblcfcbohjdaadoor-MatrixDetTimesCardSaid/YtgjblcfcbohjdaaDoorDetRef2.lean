/- timbref1.Determinant is the determinant. -/
import Derived.Test.YtgjblcfcbohjdaaDoorDetRef
namespace Go.Proofs.YtgjblcfcbohjdaaDoor
set_option linter.unusedVariables false
set_option linter.unusedSimpArgs false
open Go.RowKit

theorem fct_le6 : ∀ n, n ≤ 6 → fct n ≤ 720 := by
  intro n hn
  have : n = 0 ∨ n = 1 ∨ n = 2 ∨ n = 3 ∨ n = 4 ∨ n = 5 ∨ n = 6 := by omega
  rcases this with h | h | h | h | h | h | h <;> subst h <;> decide
theorem detR_small {n : Nat} {M : Mtx Int} (hn : n ≤ 6) (h : ∀ i, i < n → ∀ j, j < n → (M i j).natAbs ≤ 100) : (detR n M).natAbs ≤ 720000000000000 := by
  refine Nat.le_trans (detR_le (B := 100) n M h) ?_
  have h1 := fct_le6 n hn
  have h2 := pow_small (B := 100) (Nat.le_refl _) (Nat.le_refl n) hn
  calc fct n * 100 ^ n ≤ 720 * 1000000000000 := Nat.mul_le_mul h1 h2
    _ = 720000000000000 := by decide
theorem eDetX : ∀ args w, (callFunc 33 args).run Tryd.prog w = .ok (.enter 33 args) w := enters (fn := Tryd.f33) (by kernel_rfl) (by kernel_rfl) (by kernel_rfl)

set_option maxRecDepth 100000 in
set_option maxHeartbeats 2000000 in
theorem determinant_any (A : Option Addr) (n c : Nat) (xss : List (List Int)) (w : World) (hm : SLL w A n c xss) (hsq : ∀ i, i < n → (xss.getD i []).length = n) (hB : ∀ i, i < n → ∀ j, j < n → ((matF xss) i j).natAbs ≤ 100) (hn : n ≤ 6) :
    Calls Tryd.prog 14 #[.slice A n c] w fun e w' => e = .returned (.int .i64 (detR n (matF xss))) ∧ Below w.heap.size w w' := by
  have hmf : ∀ (fn : Fn) (first cap : Array Value) (w : World), (Instr.makeFunc fn first cap).run Tryd.prog w = .ok (.func fn first cap) w := fun _ _ _ _ => rfl
  have V := det_visit w (w.heap.size + 1) w.heap.size A n c xss hm (by omega) (by omega) hsq hB hn
  have hb2 : Below w.heap.size w ((w.alloc (.cells #[.slice A n c] 22)).alloc (.cells #[.int .i64 0] 3)) := ((Below.refl _ _).alloc (Nat.le_refl _) _).alloc (by simp) _
  have hJ : DJ w (w.heap.size + 1) w.heap.size A n c 0 ((w.alloc (.cells #[.slice A n c] 22)).alloc (.cells #[.int .i64 0] 3)) := by
    refine ⟨hb2, ?_, (Blk.new w 22 #[.slice A n c]).alloc _, ⟨0, by unfold wrap64; omega⟩⟩
    have := Blk.new (w.alloc (.cells #[.slice A n c] 22)) 3 #[.int .i64 0]
    simpa using this
  have HP := hide (permutations_any V eDetX (by omega) 0 _ hJ)
  have hfold : (permsN n).foldl (stepI (matF xss)) 0 = detR n (matF xss) := by
    have h := foldl_stepI (matF xss) (permsN n) 0
    rw [show wrap64 0 = 0 by unfold wrap64; omega, Int.zero_add] at h
    rw [h, show sumLR ((permsN n).map (termI (matF xss))) = detR n (matF xss) from leib_eq n (matF xss)]
    have := detR_small hn hB
    unfold wrap64
    omega
  rw [hfold] at HP
  have HB2 := hide hb2
  clear V hJ hb2 hm hfold
  go_enter Tryd.func14, Tryd.ntmps14
  go_wp2_with fail
  refine HP.out.mono ?_
  rintro e w3 ⟨rfl, hJ3, hg3⟩
  have hsum := hJ3.sum.cell 0
  simp at hsum
  have HB3 := hide hJ3.below
  clear hJ3 hg3 HP HB2
  obtain ⟨d, hd⟩ : ∃ d, detR n (matF xss) = d := ⟨_, rfl⟩
  rw [hd] at hsum
  have HD := hide hd
  clear hd
  go_wp2_with fail
  go_returns
  rw [HD.out]
  exact ⟨rfl, HB3.out⟩
end Go.Proofs.YtgjblcfcbohjdaaDoor
