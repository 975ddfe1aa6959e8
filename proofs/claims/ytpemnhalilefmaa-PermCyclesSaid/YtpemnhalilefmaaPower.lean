/- Power. -/
import Derived.Test.YtpemnhalilefmaaOrder
import Derived.Test.YtpemnhalilefmaaComp
namespace Go.Proofs.Ytpemnhalilefmaa
open Go.RowKit

theorem ord_pos {a : List Nat} (pa : isP a) (h9 : a.length ≤ 9) : 0 < ordL (cycs a) ∧ ordL (cycs a) ≤ 1000000000 := by
  have h := ordL_bound pa h9 (cycs a).length (Nat.le_refl _)
  rw [List.take_length] at h
  have h2 := cycs_length a
  exact ⟨h.1, Nat.le_trans h.2 (pow9 _ (by omega))⟩

set_option maxHeartbeats 2000000 in
theorem power_ok (A : Option Addr) (n c : Nat) (a : List Nat) (k : Int) (w : World) (ha : IL w A n (zs a)) (pa : isP a) (h9 : a.length ≤ 9) :
    Calls Try.prog 16 #[.slice A n c, .int .i64 k] w (GivesOwn0 w (zs (powZ a k))) := by
  have HO := hide (order_ok A n c a w ha pa h9)
  have hop := ord_pos pa h9
  have HL : Hid (a.length = n) := by have := ha.len; rwa [zs_length] at this
  have hn9 : n ≤ 9 := by have := HL.out; omega
  have HP := hide pa
  have HE := hide (emod_of_tmod k (ordL (cycs a)) hop.1)
  have h2 := Int.tmod_lt_of_pos k (b := (ordL (cycs a) : Nat)) (by omega)
  have h3 := Int.lt_tmod_of_pos k (b := (ordL (cycs a) : Nat)) (by omega)
  have ho1 := hop.1
  have ho2 := hop.2
  have HZ : Hid (powZ a k = powN a (k % (ordL (cycs a) : Int)).toNat) := rfl
  clear hop pa h9
  generalize ordL (cycs a) = o at *
  by_cases hneg : k.tmod o < 0
  all_goals
    obtain ⟨st, hst⟩ : ∃ st : Nat, k % (o : Int) = (st : Int) := ⟨(k % (o : Int)).toNat, by have := Int.emod_nonneg k (show (o : Int) ≠ 0 by omega); omega⟩
    have hso : st < o := by have := Int.emod_lt_of_pos k (show (0 : Int) < o by omega); omega
    have HZ' : Hid (powN a st = powZ a k) := by rw [HZ.out, hst]; exact rfl
    have HS : Hid ((if k.tmod (o : Int) < 0 then k.tmod o + o else k.tmod o) = (st : Int)) := by rw [← HE.out, hst]; exact rfl
    clear hst HE HZ
    go_enter Try.func16, Try.ntmps16
    go_wp2_with fail
    refine HO.out.mono ?_
    rintro e w1 ⟨rfl, hb1⟩
  · have hst : k.tmod (o : Int) + o = st := by have := HS.out; rwa [if_pos hneg] at this
    go_wp2_with fail
    refine (ident_any n _ (by omega)).mono ?_
    rintro e w2 ⟨A2, n2, c2, rfl, hown2, hb2⟩
    have hown02 := hown2.mono hb1.size
    have hb02 := hb1.trans (hb2.mono hb1.size)
    clear hown2 hb2 hb1
    go_wp2_with fail
    go_loopw [9, 30] (fun pv i wr => ∃ (j m9 c9 : Nat) (A9 : Option Addr), j ≤ st ∧ i = .int .i64 j ∧ pv = .slice A9 m9 c9 ∧ OwnI wr w.heap.size A9 m9 c9 (zs (powN a j)) ∧ Below w.heap.size w wr) (fun _ i _ => st - (intOf i).toNat)
    case atStart => exact ⟨0, _, _, A2, Nat.zero_le _, rfl, rfl, by rw [powN_zero, HL.out]; exact hown02, hb02⟩
    case round =>
      obtain ⟨j, m9, c9, A9, hj, rfl, rfl, hi9, hnx⟩ := hrel
      clear hown02 hb02
      by_cases hlt : j < st
      · have ha' := ha.below hnx
        have HA := hide ha
        clear ha hst
        go_wp2_with fail
        refine (pcompose_any _ _ _ _ _ _ (powN a j) a _ hi9.il ha' (powN_lt HP.out j)).mono ?_
        rw [powN_succ]
        rintro e w3 ⟨A3, n3, c3, rfl, hown3, hb3⟩
        have hown3' := hown3.mono hnx.size
        have hb03 := hnx.trans (hb3.mono hnx.size)
        clear hown3 hb3 ha' hi9
        go_wp2
        go_roundw
        case rel => exact ⟨j + 1, n3, c3, A3, by omega, by go_num, rfl, hown3', hb03⟩
        case measure => simp [intOf]; omega
      · have hjs : j = st := by omega
        have HF : Hid (powN a j = powZ a k) := by rw [hjs]; exact HZ'.out
        clear hst hjs
        go_wp2
        go_ret2
        rw [HF.out] at hi9
        exact ⟨_, _, _, rfl, hi9, hnx⟩
  · have hst : k.tmod (o : Int) = st := by have := HS.out; rwa [if_neg (by omega)] at this
    go_wp2_with fail
    refine (ident_any n _ (by omega)).mono ?_
    rintro e w2 ⟨A2, n2, c2, rfl, hown2, hb2⟩
    have hown02 := hown2.mono hb1.size
    have hb02 := hb1.trans (hb2.mono hb1.size)
    clear hown2 hb2 hb1
    go_wp2_with fail
    go_loopw [9, 30] (fun pv i wr => ∃ (j m9 c9 : Nat) (A9 : Option Addr), j ≤ st ∧ i = .int .i64 j ∧ pv = .slice A9 m9 c9 ∧ OwnI wr w.heap.size A9 m9 c9 (zs (powN a j)) ∧ Below w.heap.size w wr) (fun _ i _ => st - (intOf i).toNat)
    case atStart => exact ⟨0, _, _, A2, Nat.zero_le _, rfl, rfl, by rw [powN_zero, HL.out]; exact hown02, hb02⟩
    case round =>
      obtain ⟨j, m9, c9, A9, hj, rfl, rfl, hi9, hnx⟩ := hrel
      clear hown02 hb02
      by_cases hlt : j < st
      · have ha' := ha.below hnx
        have HA := hide ha
        clear ha hst
        go_wp2_with fail
        refine (pcompose_any _ _ _ _ _ _ (powN a j) a _ hi9.il ha' (powN_lt HP.out j)).mono ?_
        rw [powN_succ]
        rintro e w3 ⟨A3, n3, c3, rfl, hown3, hb3⟩
        have hown3' := hown3.mono hnx.size
        have hb03 := hnx.trans (hb3.mono hnx.size)
        clear hown3 hb3 ha' hi9
        go_wp2
        go_roundw
        case rel => exact ⟨j + 1, n3, c3, A3, by omega, by go_num, rfl, hown3', hb03⟩
        case measure => simp [intOf]; omega
      · have hjs : j = st := by omega
        have HF : Hid (powN a j = powZ a k) := by rw [hjs]; exact HZ'.out
        clear hst hjs
        go_wp2
        go_ret2
        rw [HF.out] at hi9
        exact ⟨_, _, _, rfl, hi9, hnx⟩

set_option maxHeartbeats 1000000 in
theorem power_err (A : Option Addr) (n c : Nat) (xs : List Int) (k : Int) (w : World) (ha : IL w A n xs) (hf : pf xs ≠ 0) :
    Calls Try.prog 16 #[.slice A n c, .int .i64 k] w fun e w' => e = .returned (.tuple #[.slice none 0 0, .int .i64 (pf xs)]) ∧ Below w.heap.size w w' := by
  have HC := hide (order_err A n c xs w ha hf)
  have h2b : (pf xs != 0) = true := by simpa using hf
  clear hf ha
  go_enter Try.func16, Try.ntmps16
  go_wp2_with fail
  refine HC.out.mono ?_
  rintro e w1 ⟨rfl, hb1⟩
  go_wp2
  go_ret2
  exact ⟨rfl, hb1⟩
end Go.Proofs.Ytpemnhalilefmaa
