/- identity, Row, Below, countSmaller, Index. -/
import Derived.Test.YtnpdlfnhpghkmaaSmall
import Derived.Test.YtnpdlfnhpghkmaaBase
namespace Go.Proofs.Ytnpdlfnhpghkmaa
set_option linter.unusedVariables false
set_option linter.unusedSimpArgs false
open Go.RowKit

set_option maxHeartbeats 1000000 in
theorem row_any (n : Nat) (w : World) (hn : n ≤ 1000000) :
    Calls Try.prog 42 #[.int .i64 n] w (GivesOwn w (zs (List.range n))) := by
  obtain ⟨i0, hi0, hz0, hz1, hz2⟩ := info_parts int_info
  go_enter Try.func42, Try.ntmps42
  go_wp2_with (at_make; refine wpList_make_full _ rfl _ _ 23 rfl w.heap.size 3 i0 (.int .i64 0) 1 Try.underlying23 hi0 hz0 hz1 .i64 .i64 _ _ n rfl rfl rfl rfl (by rw [hz2]; omega) (by unfold maxLen; omega) (Nat.le_refl _) ?_; intro w1 hown1 hg1)
  have hB1 : Below w.heap.size w w1 := (Below.refl _ _).grown hg1 (Nat.le_refl _) (by intro k hk; cases hk)
  have hw1 := OwnI.zero (z := #[]) hown1 (by omega)
  clear hown1 hg1
  go_loopw [9] (fun i wr => ∃ k : Nat, k ≤ n ∧ i = .int .i64 k ∧ OwnI wr w.heap.size (some ⟨w.heap.size, 0, none⟩) n n (fillN (fun j => (j : Int)) n k) ∧ Below w.heap.size w wr) (fun i _ => n - (intOf i).toNat)
  case atStart => exact ⟨0, Nat.zero_le _, rfl, by rw [fillN_zero]; exact hw1, hB1⟩
  case round =>
    obtain ⟨k, hk, rfl, hown, hnx⟩ := hrel
    clear hw1 hB1
    by_cases hlt : k < n
    · have hcell := hown.cell hlt
      have hfr := hown.frozen k
      have HS := hide (hown.set_ k (k : Int))
      clear hown
      generalize hz : (fillN (fun j => (j : Int)) n k).getD k 0 = z at *
      clear hz
      go_wp2
      go_roundw
      case rel =>
        refine ⟨k + 1, by omega, by go_num, ?_, hnx.setCell (Nat.le_refl _) _⟩
        have := HS.out
        rw [fillN_set (fun j => (j : Int))] at this
        exact this
      case measure => simp [intOf]; omega
    · have HF : Hid (fillN (fun j => (j : Int)) n k = zs (List.range n)) := by
        obtain rfl : k = n := by omega
        exact fillN_full (by simp [zs]) (fun j hj => by rw [zs_getD]; simp [List.getD, hj])
      go_wp2
      go_ret
      refine ⟨_, _, _, rfl, ?_, hnx⟩
      rw [HF.out] at hown
      exact hown

theorem emod_of_tmod (n : Int) (m : Nat) (h0 : 0 < m) : n % (m : Int) = if n.tmod m < 0 then n.tmod m + m else n.tmod m := by
  have h1 := Int.tmod_add_mul_tdiv n m
  have h2 := Int.tmod_lt_of_pos n (b := m) (by omega)
  have h3 := Int.lt_tmod_of_pos n (b := m) (by omega)
  generalize hr : n.tmod m = r at *
  have e : ∀ x : Int, 0 ≤ x → x < m → (∃ q, n = x + m * q) → n % (m : Int) = x := fun x hx0 hx1 ⟨q, hq⟩ => by
    rw [hq, Int.add_mul_emod_self_left]
    exact Int.emod_eq_of_lt hx0 hx1
  by_cases h : r < 0
  · rw [if_pos h]
    refine e _ (by omega) (by omega) ⟨n.tdiv m - 1, ?_⟩
    rw [Int.mul_sub]
    omega
  · rw [if_neg h]
    exact e _ (by omega) (by omega) ⟨n.tdiv m, by omega⟩

set_option maxHeartbeats 1000000 in
theorem mbelow_any (n : Int) (m : Nat) (w : World) (h0 : 0 < m) (hm : m ≤ 1000000) :
    Calls Try.prog 27 #[.int .i64 n, .int .i64 m] w fun e w' => e = .returned (.int .i64 (n % (m : Int))) ∧ w = w' := by
  have HE := hide (emod_of_tmod n m h0)
  have h2 := Int.tmod_lt_of_pos n (b := m) (by omega)
  have h3 := Int.lt_tmod_of_pos n (b := m) (by omega)
  by_cases h : n.tmod m < 0
  · have HE' : Hid (n % (m : Int) = n.tmod m + m) := by rw [HE.out, if_pos h]; exact rfl
    clear HE
    go_enter Try.func27, Try.ntmps27
    go_wp2
    go_ret
    rw [HE'.out]
    exact ⟨rfl, rfl⟩
  · have HE' : Hid (n % (m : Int) = n.tmod m) := by rw [HE.out, if_neg h]; exact rfl
    clear HE
    go_enter Try.func27, Try.ntmps27
    go_wp2
    go_ret
    rw [HE'.out]
    exact ⟨rfl, rfl⟩

theorem cntLt_take (xs : List Int) (x : Int) (k : Nat) (hk : k < xs.length) : cntLt (xs.take (k + 1)) x = cntLt (xs.take k) x + if xs.getD k 0 < x then 1 else 0 := by
  unfold cntLt
  rw [List.take_succ_eq_append_getElem hk, List.countP_append]
  simp [List.countP_cons, List.getD, List.getElem?_eq_getElem hk]
theorem cntLt_le (xs : List Int) (x : Int) : cntLt xs x ≤ xs.length := List.countP_le_length

end Go.Proofs.Ytnpdlfnhpghkmaa
