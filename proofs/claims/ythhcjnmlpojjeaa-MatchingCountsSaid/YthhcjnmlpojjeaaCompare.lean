/- slices.Compare, factorial. -/
import Derived.Test.YthhcjnmlpojjeaaSmall2
import Derived.Test.YthhcjnmlpojjeaaBase1
namespace Go.Proofs.Ythhcjnmlpojjeaa
set_option linter.unusedVariables false
set_option linter.unusedSimpArgs false
open Go.RowKit

/-- cmp.Compare at integers. -/
def cmp1 (x y : Int) : Int := if x < y then -1 else if y < x then 1 else 0

set_option maxHeartbeats 1000000 in
theorem cmp_any (x y : Int) (w : World) : Calls Try.prog 53 #[.int .i64 x, .int .i64 y] w fun e w' => e = .returned (.int .i64 (cmp1 x y)) ∧ w = w' := by
  rcases Int.lt_trichotomy x y with h | h | h
  · have HE : Hid (cmp1 x y = -1) := if_pos h
    have hx : (x != x) = false := by simp
    have hy : (y != y) = false := by simp
    go_enter Try.func53, Try.ntmps53
    go_wp2
    go_ret
    rw [HE.out]
    exact ⟨rfl, rfl⟩
  · subst h
    have HE : Hid (cmp1 x x = 0) := by unfold cmp1; rw [if_neg (by omega), if_neg (by omega)]; exact rfl
    have hx : (x != x) = false := by simp
    go_enter Try.func53, Try.ntmps53
    go_wp2
    go_ret
    rw [HE.out]
    exact ⟨rfl, rfl⟩
  · have HE : Hid (cmp1 x y = 1) := by unfold cmp1; rw [if_neg (by omega), if_pos h]; exact rfl
    have hx : (x != x) = false := by simp
    have hy : (y != y) = false := by simp
    go_enter Try.func53, Try.ntmps53
    go_wp2
    go_ret
    rw [HE.out]
    exact ⟨rfl, rfl⟩

theorem cmpI_step {xs ys : List Int} {k : Nat} (hx : k < xs.length) (hy : k < ys.length) :
    cmpI (xs.drop k) (ys.drop k) = if xs.getD k 0 < ys.getD k 0 then -1 else if ys.getD k 0 < xs.getD k 0 then 1 else cmpI (xs.drop (k + 1)) (ys.drop (k + 1)) := by
  rw [List.drop_eq_getElem_cons hx, List.drop_eq_getElem_cons hy, cmpI]
  simp only [List.getD, List.getElem?_eq_getElem hx, List.getElem?_eq_getElem hy, Option.getD_some]

set_option maxHeartbeats 1000000 in
theorem compare_any (A B : Option Addr) (n m c d : Nat) (xs ys : List Int) (w : World) (ha : IL w A n xs) (hb : IL w B m ys) :
    Calls Try.prog 29 #[.slice A n c, .slice B m d] w fun e w' => e = .returned (.int .i64 (cmpI xs ys)) ∧ w = w' := by
  have hna := ha.small
  have hnb := hb.small
  have HL : Hid (xs.length = n ∧ ys.length = m) := ⟨ha.len, hb.len⟩
  go_enter Try.func29, Try.ntmps29
  go_wp2
  go_loop [11] (fun i => ∃ k : Nat, k ≤ n ∧ k ≤ m ∧ i = .int .i64 k ∧ Hid (cmpI xs ys = cmpI (xs.drop k) (ys.drop k))) (fun i => n - (intOf i).toNat)
  case atStart => exact ⟨0, Nat.zero_le _, Nat.zero_le _, rfl, rfl⟩
  case round =>
    obtain ⟨k, hk, hkm, rfl, hc⟩ := hrel
    by_cases hlt : k < n
    · obtain ⟨ad, rfl, hca⟩ := ha.at_ hlt
      by_cases hmt : k < m
      · obtain ⟨bd, rfl, hcb⟩ := hb.at_ hmt
        have HS := hide (cmpI_step (xs := xs) (ys := ys) (k := k) (by have := HL.out; omega) (by have := HL.out; omega))
        clear ha hb
        generalize xs.getD k 0 = x at *
        generalize ys.getD k 0 = y at *
        have HC := hide (cmp_any x y w)
        rcases Int.lt_trichotomy x y with h | h | h
        · have HE : Hid (cmpI xs ys = -1) := by rw [hc.out, HS.out, if_pos h]; exact rfl
          have H1 : Hid (cmp1 x y = -1) := if_pos h
          go_wp2_with fail
          refine HC.out.mono ?_
          rw [H1.out]
          rintro e w' ⟨rfl, rfl⟩
          go_wp2
          go_ret
          rw [HE.out]
          exact ⟨rfl, rfl⟩
        · subst h
          have HE : Hid (cmpI xs ys = cmpI (xs.drop (k + 1)) (ys.drop (k + 1))) := by rw [hc.out, HS.out, if_neg (by omega), if_neg (by omega)]; exact rfl
          have H1 : Hid (cmp1 x x = 0) := by unfold cmp1; rw [if_neg (by omega), if_neg (by omega)]; exact rfl
          go_wp2_with fail
          refine HC.out.mono ?_
          rw [H1.out]
          rintro e w' ⟨rfl, rfl⟩
          go_wp2
          go_round
          case rel => exact ⟨k + 1, by omega, by omega, by go_num, HE⟩
          case measure => simp [intOf]; omega
        · have HE : Hid (cmpI xs ys = 1) := by rw [hc.out, HS.out, if_neg (by omega), if_pos h]; exact rfl
          have H1 : Hid (cmp1 x y = 1) := by unfold cmp1; rw [if_neg (by omega), if_pos h]; exact rfl
          go_wp2_with fail
          refine HC.out.mono ?_
          rw [H1.out]
          rintro e w' ⟨rfl, rfl⟩
          go_wp2
          go_ret
          rw [HE.out]
          exact ⟨rfl, rfl⟩
      · have HE : Hid (cmpI xs ys = 1) := by
          rw [hc.out, List.drop_eq_getElem_cons (show k < xs.length by have := HL.out; omega), List.drop_eq_nil_of_le (show ys.length ≤ k by have := HL.out; omega)]
          exact rfl
        go_wp2
        go_ret
        rw [HE.out]
        exact ⟨rfl, rfl⟩
    · by_cases hmt : k < m
      · have HE : Hid (cmpI xs ys = -1) := by
          rw [hc.out, List.drop_eq_getElem_cons (show k < ys.length by have := HL.out; omega), List.drop_eq_nil_of_le (show xs.length ≤ k by have := HL.out; omega)]
          exact rfl
        have hnm : n < m := by omega
        go_wp2
        go_ret
        rw [HE.out]
        exact ⟨rfl, rfl⟩
      · have HE : Hid (cmpI xs ys = 0) := by
          rw [hc.out, List.drop_eq_nil_of_le (show ys.length ≤ k by have := HL.out; omega), List.drop_eq_nil_of_le (show xs.length ≤ k by have := HL.out; omega)]
          exact rfl
        have hnm : ¬ n < m := by omega
        go_wp2
        go_ret
        rw [HE.out]
        exact ⟨rfl, rfl⟩

end Go.Proofs.Ythhcjnmlpojjeaa
