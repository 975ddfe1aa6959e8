/- slices.Min, timbref1.Period. -/
import Derived.Test.YtpemnhalilefmaaTimes
import Derived.Test.YtpemnhalilefmaaPower
import Derived.Test.YtpemnhalilefmaaEqual
namespace Go.Proofs.Ytpemnhalilefmaa
open Go.RowKit

/-- The least element. -/
structure IsLeast (us : List Nat) (k m : Nat) : Prop where
  mem : ∃ j, j < k ∧ us.getD j 0 = m
  le : ∀ j, j < k → m ≤ us.getD j 0

theorem IsLeast.step {us : List Nat} {k m : Nat} (h : IsLeast us k m) : IsLeast us (k + 1) (min m (us.getD k 0)) := by
  obtain ⟨j, hj, he⟩ := h.mem
  constructor
  · rcases Nat.le_total m (us.getD k 0) with hle | hle
    · exact ⟨j, by omega, by rw [he, Nat.min_eq_left hle]⟩
    · exact ⟨k, by omega, by rw [Nat.min_eq_right hle]⟩
  · intro i hi
    rcases Nat.lt_or_ge i k with h1 | h1
    · exact Nat.le_trans (Nat.min_le_left _ _) (h.le i h1)
    · obtain rfl : i = k := by omega
      exact Nat.min_le_right _ _

set_option maxHeartbeats 1000000 in
theorem min_any (A : Option Addr) (n c : Nat) (us : List Nat) (w : World) (ha : IL w A n (zs us)) (h0 : 0 < n) :
    Calls Try.prog 46 #[.slice A n c] w fun e w' => ∃ m : Nat, e = .returned (.int .i64 m) ∧ IsLeast us n m ∧ w = w' := by
  have hna := ha.small
  have HL : Hid (us.length = n) := by have := ha.len; rwa [zs_length] at this
  obtain ⟨ad, rfl, hc0⟩ := ha.at_ h0
  rw [zs_getD, show ad.add 0 = ad from by unfold Addr.add; simp] at hc0
  have hst0 : IsLeast us 1 (us.getD 0 0) := ⟨⟨0, by omega, rfl⟩, fun j hj => by rw [show j = 0 from by omega]; exact Nat.le_refl _⟩
  have HST0 := hide hst0
  clear hst0
  have hn1 : ¬ n < 1 := by omega
  generalize us.getD 0 0 = x0 at *
  go_enter Try.func46, Try.ntmps46
  go_wp2
  go_loop [3, 4] (fun mv i => ∃ (k m : Nat), 1 ≤ k ∧ k ≤ n ∧ i = .int .i64 k ∧ mv = .int .i64 m ∧ Hid (IsLeast us k m)) (fun _ i => n - (intOf i).toNat)
  case atStart => exact ⟨1, x0, Nat.le_refl _, h0, rfl, rfl, HST0⟩
  case round =>
    obtain ⟨k, m, hk1, hk, rfl, rfl, hst⟩ := hrel
    by_cases hlt : k < n
    · obtain ⟨ad', e, hca⟩ := ha.at_ hlt
      injection e with e
      subst e
      rw [zs_getD] at hca
      have HN := hide hst.out.step
      generalize us.getD k 0 = y at *
      go_wp2
      go_round
      case rel => exact ⟨k + 1, min m y, by omega, by omega, by go_num, by congr 1; split <;> omega, HN⟩
      case measure => simp [intOf]; omega
    · have hkn : k = n := by omega
      subst hkn
      go_wp2
      go_ret
      exact ⟨m, rfl, hst.out, rfl⟩

theorem isMin_iff {a : List Nat} (pa : isP a) {k m n : Nat} (hk : k < a.length) (hl : (cyc a k).length = n) (h : IsLeast (cyc a k) n m) : m = k ↔ isMin a k = true := by
  unfold isMin
  rw [decide_eq_true_iff]
  constructor
  · rintro rfl x hx
    obtain ⟨j, hj, rfl⟩ := List.mem_iff_getElem.1 hx
    have := h.le j (by omega)
    rwa [getD_eq hj] at this
  · intro hall
    obtain ⟨j, hj, he⟩ := h.mem
    have h1 : k ≤ m := by
      rw [← he]
      exact hall _ (getD_mem (by omega))
    obtain ⟨i, hi, hik⟩ := List.mem_iff_getElem.1 (cyc_self pa hk)
    have h2 := h.le i (by omega)
    rw [getD_eq hi, hik] at h2
    omega

set_option maxHeartbeats 2000000 in
theorem period_ok (A : Option Addr) (n c : Nat) (a : List Nat) (w : World) (ha : IL w A n (zs a)) (pa : isP a) (h9 : a.length ≤ 9) :
    Calls Try.prog 26 #[.slice A n c] w fun e w' => e = .returned (.int .i64 (ordL (cycs a) : Nat)) ∧ Below w.heap.size w w' := by
  have HL : Hid (a.length = n) := by have := ha.len; rwa [zs_length] at this
  have hn9 : n ≤ 9 := by have := HL.out; omega
  have HP := hide pa
  have ho := ord_pos pa h9
  have HD := hide (fun m => ord_dvd pa m)
  have ho1 := ho.1
  have ho2 := ho.2
  clear ho pa h9
  generalize ordL (cycs a) = o at *
  have HA1 : Hid (powN a 1 = a) := powN_one a
  go_enter Try.func26, Try.ntmps26
  go_wp2
  go_loopw [3, 4] (fun kv pv wr => ∃ (k m c4 : Nat) (A4 : Option Addr), 1 ≤ k ∧ k ≤ o ∧ kv = .int .i64 k ∧ pv = .slice A4 m c4 ∧ IL wr A4 m (zs (powN a k)) ∧ Hid (∀ j, 1 ≤ j → j < k → powN a j ≠ List.range a.length) ∧ Below w.heap.size w wr) (fun kv _ _ => o - (intOf kv).toNat)
  case atStart => exact ⟨1, n, c, A, Nat.le_refl _, ho1, rfl, rfl, by rw [HA1.out]; exact ha, fun j h1 h2 => by omega, Below.refl _ _⟩
  case round =>
    obtain ⟨k, m, c4, A4, hk1, hk, rfl, rfl, hp, hne, hnx⟩ := hrel
    have ha' := ha.below hnx
    have HA := hide ha
    clear ha
    go_wp2_with fail
    refine (row_any n _ (by omega)).mono ?_
    rintro e w2 ⟨A2, n2, c2, rfl, hr2, hb2⟩
    have hr := hr2.il
    replace hp := hp.below hb2
    have hb02 := hnx.trans (hb2.mono hnx.size)
    clear hr2 hb2 ha'
    go_wp2_with fail
    refine (equal_any _ _ _ _ _ _ _ _ _ hp hr).mono ?_
    by_cases he : powN a k = List.range a.length
    · have hko : k = o := by
        have h1 := (HD.out k).2 he
        have := Nat.le_of_dvd (by omega) h1
        omega
      have HE : Hid (eqB (zs (powN a k)) (zs (List.range n)) = true) := eqB_true (by rw [he, HL.out])
      rw [HE.out]
      subst hko
      rintro e w3 ⟨rfl, hb3⟩
      have hb03 := hb02.trans (hb3.mono hb02.size)
      clear he
      go_wp2
      go_ret
      exact ⟨rfl, hb03⟩
    · have hko : k < o := by
        rcases Nat.lt_or_ge k o with h | h
        · exact h
        · exact absurd ((HD.out k).1 (by rw [show k = o from by omega]; exact Nat.dvd_refl o)) he
      have HE : Hid (eqB (zs (powN a k)) (zs (List.range n)) = false) := eqB_false (fun e => he (by rw [HL.out]; exact zs_inj e))
      have HN : Hid (∀ j, 1 ≤ j → j < k + 1 → powN a j ≠ List.range a.length) := by
        intro j h1 h2
        rcases Nat.lt_or_ge j k with h3 | h3
        · exact hne.out j h1 h3
        · obtain rfl : j = k := by omega
          exact he
      rw [HE.out]
      clear he
      rintro e w3 ⟨rfl, hb3⟩
      replace hp := hp.below hb3
      have hb03 := hb02.trans (hb3.mono hb02.size)
      have ha3 := HA.out.below hb03
      clear hb3 hr hb02
      go_wp2_with fail
      refine (after_any _ _ _ _ _ _ (powN a k) a _ hp ha3 (powN_lt HP.out k)).mono ?_
      rw [powN_succ]
      rintro e w4 ⟨A5, n5, c5, rfl, ho5, hb4⟩
      have hi5 := ho5.il
      have hb04 := hb03.trans (hb4.mono hb03.size)
      clear ho5 hb4 hb03 hp ha3
      go_wp2
      go_roundw
      case rel => exact ⟨k + 1, n5, c5, A5, by omega, by omega, by go_num, rfl, hi5, HN, hb04⟩
      case measure => simp [intOf]; omega
end Go.Proofs.Ytpemnhalilefmaa
