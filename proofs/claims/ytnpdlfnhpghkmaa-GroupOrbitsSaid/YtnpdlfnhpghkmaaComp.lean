/- Compose, Inverse, and the law's own compose. -/
import Derived.Test.YtnpdlfnhpghkmaaSmall2
import Derived.Test.YtnpdlfnhpghkmaaCheck
namespace Go.Proofs.Ytnpdlfnhpghkmaa
set_option linter.unusedVariables false
set_option linter.unusedSimpArgs false
open Go.RowKit

/-- A slice in new memory, and no error. -/
def GivesOwn0 (w : World) (xs : List Int) (e : Ending) (w' : World) : Prop :=
  ∃ A n c, e = .returned (.tuple #[.slice A n c, .int .i64 0]) ∧ OwnI w' w.heap.size A n c xs ∧ Below w.heap.size w w'

set_option maxHeartbeats 1000000 in
theorem compose_ok (A B : Option Addr) (n m c d : Nat) (a b : List Nat) (w : World) (ha : IL w A n (zs a)) (hb : IL w B m (zs b)) (pa : isP a) (pb : isP b) (hl : a.length = b.length) (h9 : a.length ≤ 9) :
    Calls Try.prog 53 #[.slice A n c, .slice B m d] w (GivesOwn0 w (zs (comp a b))) := by
  have HA := hide (pa.pf h9)
  have HB := hide (pb.pf (by omega))
  have hnm : n = m := by have := ha.len; have := hb.len; rw [zs_length] at *; omega
  subst hnm
  have HAB : Hid (∀ x ∈ a, x < b.length) := fun x hx => by have := pa.1 x hx; omega
  clear pa pb hl h9
  go_enter Try.func53, Try.ntmps53
  go_wp2_with fail
  refine (check_any _ _ _ _ _ ha).mono ?_
  rw [HA.out]
  rintro e w1 ⟨rfl, hb1⟩
  go_wp2_with fail
  refine (check_any _ _ _ _ _ (hb.below hb1)).mono ?_
  rw [HB.out]
  rintro e w2 ⟨rfl, hb2⟩
  go_wp2_with fail
  have hb02 : Below w.heap.size w w2 := hb1.trans (hb2.mono hb1.size)
  refine (pcompose_any _ _ _ _ _ _ a b _ (ha.below hb02) (hb.below hb02) HAB.out).mono ?_
  rintro e w3 ⟨A3, n3, c3, rfl, hown, hb3⟩
  go_wp2
  go_ret2
  exact ⟨_, _, _, rfl, hown.mono hb02.size, hb02.trans (hb3.mono hb02.size)⟩

set_option maxHeartbeats 1000000 in
theorem compose_err (A B : Option Addr) (n m c d : Nat) (xs ys : List Int) (w : World) (ha : IL w A n xs) (hb : IL w B m ys) (hf : cfault xs ys ≠ 0) :
    Calls Try.prog 53 #[.slice A n c, .slice B m d] w fun e w' => e = .returned (.tuple #[.slice none 0 0, .int .i64 (cfault xs ys)]) ∧ Below w.heap.size w w' := by
  have HL : Hid (xs.length = n ∧ ys.length = m) := ⟨ha.len, hb.len⟩
  by_cases h1 : pf xs = 0
  · by_cases h2 : pf ys = 0
    · have hnm : xs.length ≠ ys.length := by
        intro he
        unfold cfault at hf
        rw [if_neg (by simp [h1]), if_neg (by simp [h2]), if_neg (by simp [he])] at hf
        exact hf rfl
      have HC : Hid (cfault xs ys = 3) := by unfold cfault; rw [if_neg (by simp [h1]), if_neg (by simp [h2]), if_pos hnm]; exact rfl
      have hbn : ((n : Int) != (m : Int)) = true := by have := HL.out; simp; omega
      have H1 := hide h1
      have H2 := hide h2
      clear h1 h2 hf hnm
      go_enter Try.func53, Try.ntmps53
      go_wp2_with fail
      refine (check_any _ _ _ _ _ ha).mono ?_
      rw [H1.out]
      rintro e w1 ⟨rfl, hb1⟩
      go_wp2_with fail
      refine (check_any _ _ _ _ _ (hb.below hb1)).mono ?_
      rw [H2.out]
      rintro e w2 ⟨rfl, hb2⟩
      go_wp2
      go_ret2
      rw [HC.out]
      exact ⟨rfl, hb1.trans (hb2.mono hb1.size)⟩
    · have HC : Hid (cfault xs ys = pf ys) := by unfold cfault; rw [if_neg (by simp [h1]), if_pos h2]; exact rfl
      have H1 := hide h1
      have h2b : (pf ys != 0) = true := by simpa using h2
      clear h1 h2 hf
      go_enter Try.func53, Try.ntmps53
      go_wp2_with fail
      refine (check_any _ _ _ _ _ ha).mono ?_
      rw [H1.out]
      rintro e w1 ⟨rfl, hb1⟩
      go_wp2_with fail
      refine (check_any _ _ _ _ _ (hb.below hb1)).mono ?_
      rintro e w2 ⟨rfl, hb2⟩
      go_wp2
      go_ret2
      rw [HC.out]
      exact ⟨rfl, hb1.trans (hb2.mono hb1.size)⟩
  · have HC : Hid (cfault xs ys = pf xs) := by unfold cfault; rw [if_pos h1]; exact rfl
    have h2b : (pf xs != 0) = true := by simpa using h1
    clear h1 hf
    go_enter Try.func53, Try.ntmps53
    go_wp2_with fail
    refine (check_any _ _ _ _ _ ha).mono ?_
    rintro e w1 ⟨rfl, hb1⟩
    go_wp2
    go_ret2
    rw [HC.out]
    exact ⟨rfl, hb1⟩

set_option maxHeartbeats 1000000 in
theorem kcompose_ok (A B : Option Addr) (n m c d : Nat) (a b : List Nat) (w : World) (ha : IL w A n (zs a)) (hb : IL w B m (zs b)) (pa : isP a) (pb : isP b) (hl : a.length = b.length) (h9 : a.length ≤ 9) :
    Calls Try.prog 33 #[.slice A n c, .slice B m d] w (GivesOwn w (zs (comp a b))) := by
  have HK := hide (compose_ok A B n m c d a b w ha hb pa pb hl h9)
  clear ha hb pa pb hl h9
  go_enter Try.func33, Try.ntmps33
  go_wp2_with fail
  refine HK.out.mono ?_
  rintro e w3 ⟨A3, n3, c3, rfl, hown, hb3⟩
  go_wp2
  go_ret
  exact ⟨_, _, _, rfl, hown, hb3⟩
end Go.Proofs.Ytnpdlfnhpghkmaa
