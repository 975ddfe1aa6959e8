/- slices.Sort. -/
import Derived.Test.YtnpdlfnhpghkmaaSort
import Derived.Test.YtnpdlfnhpghkmaaBits
namespace Go.Proofs.Ytnpdlfnhpghkmaa
set_option linter.unusedVariables false
set_option linter.unusedSimpArgs false
open Go.RowKit

set_option maxHeartbeats 1000000 in
theorem pdq_small (g n c base : Nat) (xs : List Int) (lim : Int) (w : World) (hx : OwnI w base (some ⟨g, 0, none⟩) n c xs) (h9 : n ≤ 9) :
    Calls Try.prog 65 #[.slice (some ⟨g, 0, none⟩) n c, .int .i64 0, .int .i64 n, .int .i64 lim] w fun e w' => e = .returned (.tuple #[]) ∧ ∃ ys : List Int, SoSt w w' base g n c xs ys n := by
  have HC := hide (insertion_any g n c base xs w hx h9)
  clear hx
  go_enter Try.func65, Try.ntmps65
  go_wp2
  refine wp_loop_rounds 1 ?_
  rw [rounds_succ]
  go_wp2_with fail
  refine HC.out.mono ?_
  rintro e w1 ⟨rfl, ys, hs⟩
  go_wp2
  refine bodyPost_ret (results_none rfl _ _ _) rfl ?_
  exact ⟨rfl, ys, hs⟩

set_option maxHeartbeats 1000000 in
theorem insertion_nil (A : Option Addr) (c : Nat) (w : World) : Calls Try.prog 67 #[.slice A 0 c, .int .i64 0, .int .i64 0] w fun e w' => e = .returned (.tuple #[]) ∧ w = w' := by
  go_enter Try.func67, Try.ntmps67
  go_wp2
  refine wp_loop_rounds 1 ?_
  rw [rounds_succ]
  go_wp2
  go_end0
  exact ⟨rfl, rfl⟩

set_option maxHeartbeats 1000000 in
theorem pdq_nil (A : Option Addr) (c : Nat) (lim : Int) (w : World) : Calls Try.prog 65 #[.slice A 0 c, .int .i64 0, .int .i64 0, .int .i64 lim] w fun e w' => e = .returned (.tuple #[]) ∧ w = w' := by
  have HC := hide (insertion_nil A c w)
  go_enter Try.func65, Try.ntmps65
  go_wp2
  refine wp_loop_rounds 1 ?_
  rw [rounds_succ]
  go_wp2_with fail
  refine HC.out.mono ?_
  rintro e w1 ⟨rfl, rfl⟩
  go_wp2
  refine bodyPost_ret (results_none rfl _ _ _) rfl ?_
  exact ⟨rfl, rfl⟩

/-- What slices.Sort leaves. -/
def Sorts (w : World) (base : Nat) (A : Option Addr) (n c : Nat) (xs : List Int) (e : Ending) (w' : World) : Prop :=
  e = .returned (.tuple #[]) ∧ ∃ ys : List Int, OwnI w' base A n c ys ∧ ys.Perm xs ∧ ys.Pairwise (· ≤ ·) ∧ w.grownBy w' (Value.slice A n c).ownBlock

set_option maxHeartbeats 1000000 in
theorem sort_any (A : Option Addr) (n c base : Nat) (xs : List Int) (w : World) (hx : OwnI w base A n c xs) (h9 : n ≤ 9) :
    Calls Try.prog 61 #[.slice A n c] w (Sorts w base A n c xs) := by
  have HB := hide (fun (W : World) => bits_len_any (n : Int) W (by omega) (by omega))
  by_cases h0 : n = 0
  · subst h0
    have HP := hide (fun lim => pdq_nil A c lim w)
    have hx0 : xs = [] := List.eq_nil_of_length_eq_zero hx.len
    subst hx0
    go_enter Try.func61, Try.ntmps61
    go_wp2_with fail
    refine (HB.out _).mono ?_
    generalize Lib.bitLen _ = bl
    rintro e w1 ⟨rfl, hw⟩
    subst hw
    go_wp2_with fail
    refine (HP.out _).mono ?_
    rintro e w2 ⟨rfl, hw⟩
    subst hw
    go_wp2
    go_end0
    exact ⟨rfl, [], hx, List.Perm.refl _, List.Pairwise.nil, World.grownBy.refl _ _⟩
  · obtain ⟨g, rfl, _, _⟩ := hx.form (by omega)
    have HP := hide (fun lim => pdq_small g n c base xs lim w hx h9)
    go_enter Try.func61, Try.ntmps61
    go_wp2_with fail
    refine (HB.out _).mono ?_
    generalize Lib.bitLen _ = bl
    rintro e w1 ⟨rfl, hw⟩
    subst hw
    go_wp2_with fail
    refine (HP.out _).mono ?_
    rintro e w2 ⟨rfl, ys, hs⟩
    go_wp2
    go_end0
    have hl := hs.own.len
    exact ⟨rfl, ys, hs.own, hs.perm, sortTo_pairwise (by rw [hl]; exact hs.sort), hs.grown⟩
end Go.Proofs.Ytnpdlfnhpghkmaa
