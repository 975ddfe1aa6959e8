/- freegroup.period. -/
import Derived.Test.YtbckgomidoelaaaFgRot
namespace Go.Proofs.Ytbckgomidoelaaa
set_option linter.unusedVariables false
set_option linter.unusedSimpArgs false
open Go.RowKit

theorem rep_of_shift : ∀ (k q : Nat) (L : List Int), 0 < q → L.length = k * q → L.drop q = L.take (L.length - q) → L = rep (L.take q) k
  | 0, q, L, h0, hl, h => by
    rw [Nat.zero_mul] at hl
    rw [List.eq_nil_of_length_eq_zero hl]; rfl
  | k + 1, q, L, h0, hl, h => by
    rw [Nat.add_one_mul] at hl
    rw [rep_succ]
    have hlen : (L.drop q).length = k * q := by rw [List.length_drop]; omega
    have e : L = L.take q ++ L.drop q := (List.take_append_drop q L).symm
    rcases Nat.eq_zero_or_pos k with hk | hk
    · subst hk
      rw [Nat.zero_mul] at hlen
      rw [List.eq_nil_of_length_eq_zero hlen] at e
      rw [rep_zero]
      exact e
    · have hkq : q ≤ k * q := Nat.le_mul_of_pos_left q hk
      have h1 : (L.drop q).drop q = (L.drop q).take ((L.drop q).length - q) := by
        rw [hlen]
        rw [show (L.drop q).drop q = (L.take (L.length - q)).drop q by rw [h]]
        rw [List.drop_take, show L.length - q - q = k * q - q by omega]
      have h2 := rep_of_shift k q (L.drop q) h0 hlen h1
      have h3 : (L.drop q).take q = L.take q := by
        rw [h, List.take_take, show min q (L.length - q) = q by omega]
      rw [h3] at h2
      rw [← h2]
      exact e
theorem shift_of_rep {L d : List Int} {k q : Nat} (hd : d.length = q) (hk : 0 < k) (h : L = rep d k) : L.drop q = L.take (L.length - q) := by
  obtain ⟨j, rfl⟩ : ∃ j, k = j + 1 := ⟨k - 1, by omega⟩
  have hl : L.length = j * q + q := by rw [h, rep_length, hd, Nat.add_one_mul]
  have h1 : L.drop q = rep d j := by rw [h, rep_succ, ← hd, List.drop_left]
  have h2 : L.take (L.length - q) = rep d j := by
    rw [hl, Nat.add_sub_cancel, h, rep_succ', List.take_left' (by rw [rep_length, hd])]
  rw [h1, h2]
/-- The least period that divides the length gives the root. -/
theorem isRoot_of_period {L : List Int} {p : Nat} (hne : L ≠ []) (hp : 0 < p) (hd : p ∣ L.length) (h : L.drop p = L.take (L.length - p)) (hmin : ∀ q, 0 < q → q < p → ¬ (q ∣ L.length ∧ L.drop q = L.take (L.length - q))) :
    IsRoot L (L.take p) (L.length / p) := by
  have hl0 : 0 < L.length := by
    rcases Nat.eq_zero_or_pos L.length with h0 | h0
    · exact absurd (List.eq_nil_of_length_eq_zero h0) hne
    · exact h0
  obtain ⟨k, hk⟩ := hd
  have hk0 : 0 < k := by
    rcases Nat.eq_zero_or_pos k with h0 | h0
    · rw [h0] at hk; omega
    · exact h0
  have e1 : L.length / p = k := by rw [hk, Nat.mul_div_cancel_left k hp]
  have e2 : L.length / k = p := by rw [hk, Nat.mul_div_cancel p hk0]
  rw [e1]
  have := isRoot_of_try (c := L) (k := k) hne hk0 ⟨p, by rw [hk, Nat.mul_comm]⟩ (by rw [e2]; exact rep_of_shift k p L hp (by rw [hk, Nat.mul_comm]) h) (by
    intro j hj hjl hh
    obtain ⟨⟨q, hq⟩, he⟩ := hh
    have hj0 : 0 < j := by omega
    have e3 : L.length / j = q := by rw [hq, Nat.mul_div_cancel_left q hj0]
    have hq0 : 0 < q := by
      rcases Nat.eq_zero_or_pos q with h0 | h0
      · rw [h0] at hq; omega
      · exact h0
    have hqp : q < p := by
      rcases Nat.lt_or_ge q p with h1 | h1
      · exact h1
      · have h2 : p * k < q * j := by
          calc p * k ≤ q * k := Nat.mul_le_mul_right k h1
            _ < q * j := (Nat.mul_lt_mul_left hq0).2 hj
        rw [← hk, Nat.mul_comm, ← hq] at h2
        exact absurd h2 (Nat.lt_irrefl _)
    rw [e3] at he
    have hql : (L.take q).length = q := by
      rw [List.length_take]
      have : q ≤ L.length := by rw [hq]; exact Nat.le_mul_of_pos_left q hj0
      omega
    exact hmin q hq0 hqp ⟨⟨j, by rw [hq, Nat.mul_comm]⟩, shift_of_rep hql hj0 he⟩)
  rw [e2] at this
  exact this
theorem eFEqual : ∀ args w, (callFunc 16 args).run Try.prog w = .ok (.enter 16 args) w := enters (fn := Try.f16) (by kernel_rfl) (by kernel_rfl) (by kernel_rfl)

set_option maxRecDepth 100000 in
set_option maxHeartbeats 2000000 in
theorem fperiod_any (A : Option Addr) (n c : Nat) (xs : List Int) (w : World) (ha : IL w A n xs) (hn : n ≤ 100000) (h0 : 0 < n) (hc : n ≤ c) :
    Calls Try.prog 35 #[.slice A n c] w fun e w' => ∃ p : Nat, e = .returned (.int .i64 p) ∧ 0 < p ∧ p ≤ n ∧ p ∣ n ∧ IsRoot xs (xs.take p) (n / p) ∧ Below w.heap.size w w' := by
  have HL := hide ha.len
  have HA := hide ha
  have HNE : Hid (xs ≠ []) := hide (fun h => by have := ha.len; rw [h] at this; simp at this; omega)
  obtain ⟨i0, hi0, hz0, hz1, hz2⟩ := info_parts int_info
  have HI0 := hide hi0
  have HZ1 := hide hz1
  clear ha hi0 hz0 hz1 hz2
  go_enter Try.func35, Try.ntmps35
  go_wp2_with fail
  go_loopw [3] (fun pv wr => ∃ p : Nat, pv = .int .i64 p ∧ 1 ≤ p ∧ p ≤ n ∧ Hid (∀ q, 0 < q → q < p → ¬ (q ∣ xs.length ∧ xs.drop q = xs.take (xs.length - q))) ∧ Below w.heap.size w wr) (fun pv _ => n - (intOf pv).toNat)
  case atStart => exact ⟨1, rfl, Nat.le_refl _, h0, fun q h1 h2 => absurd h2 (by omega), Below.refl _ _⟩
  case round =>
    obtain ⟨p, rfl, hp1, hpn, HNO, hb⟩ := hrel
    have HBB := hide hb
    have HA2 := hide (HA.out.below hb)
    clear hb
    by_cases hlt : p < n
    · by_cases hdv : n % p = 0
      · have hrem : (n : Int).tmod (p : Int) = 0 := by
          rw [Int.tmod_eq_emod_of_nonneg (by omega)]
          exact_mod_cast hdv
        have HS1 := hide (HA2.out.cut (c := c) (l := p) (h := n) (by omega) (Nat.le_refl _) hc)
        have HS2 := hide (HA2.out.cut (c := c) (l := 0) (h := n - p) (Nat.zero_le _) (by omega) hc)
        have hpc : n - p ≤ c := by omega
        have e1 : (xs.drop p).take (n - p) = xs.drop p := List.take_of_length_le (by rw [List.length_drop, HL.out]; omega)
        rw [e1] at HS1
        rw [List.drop_zero, Nat.sub_zero] at HS2
        clear e1
        have hpn1 : p ≤ n := by omega
        have hsub : IntKind.i64.wrap ((n : Int) - (p : Int)) = ((n - p : Nat) : Int) := by rw [IntKind.wrap_i64]; omega
        have hp0 : (p : Int) ≠ 0 := by omega
        have HSUB := hide hsub
        have HREM := hide hrem
        have HP0 := hide hp0
        clear hsub hrem hp0
        go_upto_region 4 with fail
        refine wp_region_noPanic ?_
        refine wp_region_held_drew (S := fun w' => Below wr.heap.size wr w') (by kernel_rfl) (Below.refl _ _).drew (fun hS => ?_)
        refine wpAnyH_tk 0 (v := .slice A n c) rfl (by kernel_rfl) (by kernel_rfl) (by kernel_rfl) (yi rfl fun w' hw' => gives_move (.inl rfl) rfl) hS ?_
        go_frame
        refine wpAnyH_tk 1 (v := .int .i64 n) rfl (by kernel_rfl) (by kernel_rfl) (by kernel_rfl) (yi rfl fun w' hw' => gives_len rfl Try.underlying22 rfl) hS ?_
        go_frame
        refine wpAnyH_tk 2 (v := .int .i64 p) rfl (by kernel_rfl) (by kernel_rfl) (by kernel_rfl) (yi rfl fun w' hw' => gives_move (.inl rfl) rfl) hS ?_
        go_frame
        refine wpAnyH_tk 3 (v := .int .i64 0) rfl (by kernel_rfl) (by kernel_rfl) (by kernel_rfl) (yi rfl fun w' hw' => gives_rem rfl rfl rfl HP0.out HREM.out) hS ?_
        go_frame
        refine wpAnyH_tk 4 (v := .bool true) rfl (by kernel_rfl) (by kernel_rfl) (by kernel_rfl) (yi rfl fun w' hw' => gives_eql rfl rfl rfl rfl) hS ?_
        go_frame
        refine wpAnyH_tk 5 (v := .bool true) rfl (by kernel_rfl) (by kernel_rfl) (by kernel_rfl) (yi rfl fun w' hw' => gives_move (.inl rfl) rfl) hS ?_
        go_frame
        refine wpAnyH_tk 6 (v := .slice A n c) rfl (by kernel_rfl) (by kernel_rfl) (by kernel_rfl) (yi rfl fun w' hw' => gives_move (.inl rfl) rfl) hS ?_
        go_frame
        refine wpAnyH_tk 7 (v := .int .i64 p) rfl (by kernel_rfl) (by kernel_rfl) (by kernel_rfl) (yi rfl fun w' hw' => gives_move (.inl rfl) rfl) hS ?_
        go_frame
        refine wpAnyH_tk 8 (v := .slice (cutA A p c) (n - p) (c - p)) rfl (by kernel_rfl) (by kernel_rfl) (by kernel_rfl) (yi rfl fun w' hw' => gives_cut_l rfl Try.underlying22 (by rw [HI0.out]; exact congrArg some HZ1.out) rfl rfl hpn1) hS ?_
        go_frame
        refine wpAnyH_tk 9 (v := .slice A n c) rfl (by kernel_rfl) (by kernel_rfl) (by kernel_rfl) (yi rfl fun w' hw' => gives_move (.inl rfl) rfl) hS ?_
        go_frame
        refine wpAnyH_tk 10 (v := .slice A n c) rfl (by kernel_rfl) (by kernel_rfl) (by kernel_rfl) (yi rfl fun w' hw' => gives_move (.inl rfl) rfl) hS ?_
        go_frame
        refine wpAnyH_tk 11 (v := .int .i64 n) rfl (by kernel_rfl) (by kernel_rfl) (by kernel_rfl) (yi rfl fun w' hw' => gives_len rfl Try.underlying22 rfl) hS ?_
        go_frame
        refine wpAnyH_tk 12 (v := .int .i64 p) rfl (by kernel_rfl) (by kernel_rfl) (by kernel_rfl) (yi rfl fun w' hw' => gives_move (.inl rfl) rfl) hS ?_
        go_frame
        refine wpAnyH_tk 13 (v := .int .i64 ((n - p : Nat) : Int)) rfl (by kernel_rfl) (by kernel_rfl) (by kernel_rfl) (yi rfl fun w' hw' => gives_sub rfl rfl rfl HSUB.out) hS ?_
        go_frame
        refine wpAnyH_tk 14 (v := .slice (cutA A 0 c) (n - p - 0) (c - 0)) rfl (by kernel_rfl) (by kernel_rfl) (by kernel_rfl) (yi rfl fun w' hw' => gives_cut_h rfl Try.underlying22 (by rw [HI0.out]; exact congrArg some HZ1.out) rfl rfl hpc) hS ?_
        go_frame
        refine wpAnyH_1g 15 rfl (by kernel_rfl) rfl ?_
        refine wp_call [.slice (cutA A p c) (n - p) (c - p), .slice (cutA A 0 c) (n - p - 0) (c - 0)] rfl rfl eFEqual rfl ((equal_any _ _ (n - p) (n - p - 0) (c - p) (c - 0) _ _ _ (HS1.out.below hS) (HS2.out.below hS)).mono ?_)
        rintro e w6 ⟨rfl, hb6⟩
        have hb6' : Below wr.heap.size wr w6 := hS.trans (hb6.mono hS.size)
        refine ⟨_, rfl, hb6', ?_⟩
        go_frame
        refine wpAnyH_tk 16 (v := .bool (eqB (xs.drop p) (xs.take (n - p)))) rfl (by kernel_rfl) (by kernel_rfl) (by kernel_rfl) (yi rfl fun w' hw' => gives_pick rfl rfl rfl) hb6' ?_
        go_frame
        refine wpAnyH_done (by kernel_rfl) (noPanic_mk ?_) _
        have HB6 := hide (HBB.out.trans (hb6'.mono HBB.out.size))
        have HPD : Hid (p ∣ xs.length) := hide (by rw [HL.out]; exact Nat.dvd_of_mod_eq_zero hdv)
        clear hb6 hb6' hS
        by_cases heq : xs.drop p = xs.take (n - p)
        · rw [eqB_true heq]
          have HROOT := hide (isRoot_of_period HNE.out (by omega) HPD.out (by rw [HL.out]; exact heq) HNO.out)
          have HPD2 : Hid (p ∣ n) := by rw [← HL.out]; exact HPD.out
          clear heq HPD hdv
          go_wp2_with fail
          go_ret
          have h := HROOT.out
          rw [HL.out] at h
          exact ⟨p, rfl, hp1, hpn1, HPD2.out, h, HB6.out⟩
        · rw [eqB_false heq]
          have HNO2 : Hid (∀ q, 0 < q → q < p + 1 → ¬ (q ∣ xs.length ∧ xs.drop q = xs.take (xs.length - q))) := fun q h1 h2 h3 => by
            rcases Nat.lt_succ_iff_lt_or_eq.1 h2 with h | rfl
            · exact HNO.out q h1 h h3
            · exact heq (by rw [← HL.out]; exact h3.2)
          clear heq HPD hdv
          go_wp2_with fail
          refine ⟨⟨p + 1, by go_num, by omega, by omega, HNO2.out, HB6.out⟩, ?_⟩
          simp [intOf]
          omega
      · have hrem : ∃ r : Nat, (n : Int).tmod (p : Int) = r ∧ 0 < r := by
          refine ⟨n % p, ?_, Nat.pos_of_ne_zero hdv⟩
          rw [Int.tmod_eq_emod_of_nonneg (by omega)]
          exact_mod_cast rfl
        obtain ⟨r, hr, hr0⟩ := hrem
        have HREM := hide hr
        have HP0 : Hid ((p : Int) ≠ 0) := hide (by omega)
        have hre : ((r : Int) == 0) = false := by simp; omega
        have HRE := hide hre
        have HNO2 : Hid (∀ q, 0 < q → q < p + 1 → ¬ (q ∣ xs.length ∧ xs.drop q = xs.take (xs.length - q))) := fun q h1 h2 h3 => by
          rcases Nat.lt_succ_iff_lt_or_eq.1 h2 with h | rfl
          · exact HNO.out q h1 h h3
          · have h4 := h3.1
            rw [HL.out] at h4
            exact hdv (Nat.mod_eq_zero_of_dvd h4)
        clear hr hdv hre
        go_upto_region 4 with fail
        refine wp_region_noPanic ?_
        refine wp_region_held_drew (S := fun w' => Below wr.heap.size wr w') (by kernel_rfl) (Below.refl _ _).drew (fun hS => ?_)
        refine wpAnyH_tk 0 (v := .slice A n c) rfl (by kernel_rfl) (by kernel_rfl) (by kernel_rfl) (yi rfl fun w' hw' => gives_move (.inl rfl) rfl) hS ?_
        go_frame
        refine wpAnyH_tk 1 (v := .int .i64 n) rfl (by kernel_rfl) (by kernel_rfl) (by kernel_rfl) (yi rfl fun w' hw' => gives_len rfl Try.underlying22 rfl) hS ?_
        go_frame
        refine wpAnyH_tk 2 (v := .int .i64 p) rfl (by kernel_rfl) (by kernel_rfl) (by kernel_rfl) (yi rfl fun w' hw' => gives_move (.inl rfl) rfl) hS ?_
        go_frame
        refine wpAnyH_tk 3 (v := .int .i64 r) rfl (by kernel_rfl) (by kernel_rfl) (by kernel_rfl) (yi rfl fun w' hw' => gives_rem rfl rfl rfl HP0.out HREM.out) hS ?_
        go_frame
        refine wpAnyH_tk 4 (v := .bool false) rfl (by kernel_rfl) (by kernel_rfl) (by kernel_rfl) (yi rfl fun w' hw' => gives_eql rfl rfl rfl HRE.out) hS ?_
        go_frame
        refine wpAnyH_tk 5 (v := .bool false) rfl (by kernel_rfl) (by kernel_rfl) (by kernel_rfl) (yi rfl fun w' hw' => gives_move (.inl rfl) rfl) hS ?_
        go_frame
        refine wpAnyH_tk 6 (v := undef) rfl (by kernel_rfl) (by kernel_rfl) (by kernel_rfl) (no rfl) hS ?_
        go_frame
        refine wpAnyH_tk 7 (v := undef) rfl (by kernel_rfl) (by kernel_rfl) (by kernel_rfl) (no rfl) hS ?_
        go_frame
        refine wpAnyH_tk 8 (v := undef) rfl (by kernel_rfl) (by kernel_rfl) (by kernel_rfl) (no rfl) hS ?_
        go_frame
        refine wpAnyH_tk 9 (v := undef) rfl (by kernel_rfl) (by kernel_rfl) (by kernel_rfl) (no rfl) hS ?_
        go_frame
        refine wpAnyH_tk 10 (v := undef) rfl (by kernel_rfl) (by kernel_rfl) (by kernel_rfl) (no rfl) hS ?_
        go_frame
        refine wpAnyH_tk 11 (v := undef) rfl (by kernel_rfl) (by kernel_rfl) (by kernel_rfl) (no rfl) hS ?_
        go_frame
        refine wpAnyH_tk 12 (v := undef) rfl (by kernel_rfl) (by kernel_rfl) (by kernel_rfl) (no rfl) hS ?_
        go_frame
        refine wpAnyH_tk 13 (v := undef) rfl (by kernel_rfl) (by kernel_rfl) (by kernel_rfl) (no rfl) hS ?_
        go_frame
        refine wpAnyH_tk 14 (v := undef) rfl (by kernel_rfl) (by kernel_rfl) (by kernel_rfl) (no rfl) hS ?_
        go_frame
        refine wpAnyH_tk 15 (v := undef) rfl (by kernel_rfl) (by kernel_rfl) (by kernel_rfl) (no rfl) hS ?_
        go_frame
        refine wpAnyH_tk 16 (v := .bool false) rfl (by kernel_rfl) (by kernel_rfl) (by kernel_rfl) (yi rfl fun w' hw' => gives_pick rfl rfl rfl) hS ?_
        go_frame
        refine wpAnyH_done (by kernel_rfl) (noPanic_mk ?_) _
        have HB6 := hide (HBB.out.trans (hS.mono HBB.out.size))
        clear hS
        go_wp2_with fail
        refine ⟨⟨p + 1, by go_num, by omega, by omega, HNO2.out, HB6.out⟩, ?_⟩
        simp [intOf]
        omega
    · have hpe : p = n := by omega
      have HROOT := hide (isRoot_of_period (L := xs) (p := n) HNE.out h0 (by rw [HL.out]; exact Nat.dvd_refl _) (by rw [HL.out, Nat.sub_self, List.take_zero, List.drop_of_length_le (by rw [HL.out]; omega)]) (by rw [← hpe]; exact HNO.out))
      clear HNO
      go_wp2_with fail
      go_ret
      have h := HROOT.out
      rw [HL.out] at h
      exact ⟨n, rfl, h0, Nat.le_refl _, Nat.dvd_refl _, h, HBB.out⟩
end Go.Proofs.Ytbckgomidoelaaa
