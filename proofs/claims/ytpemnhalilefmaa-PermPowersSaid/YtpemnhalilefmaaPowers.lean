/- timbkeep1.PermPowers. -/
import Derived.Test.YtpemnhalilefmaaPower
import Derived.Test.YtpemnhalilefmaaGroup
namespace Go.Proofs.Ytpemnhalilefmaa
open Go.RowKit

theorem power_il (A : Option Addr) (n c : Nat) (a : List Nat) (k : Int) (w : World) (ha : IL w A n (zs a)) (pa : isP a) (h9 : a.length ≤ 9) :
    Calls Try.prog 16 #[.slice A n c, .int .i64 k] w fun e w' => ∃ (B : Option Addr) (m d : Nat), e = .returned (.tuple #[.slice B m d, .int .i64 0]) ∧ IL w' B m (zs (powZ a k)) ∧ Below w.heap.size w w' :=
  (power_ok A n c a k w ha pa h9).mono fun _ _ ⟨B, m, d, he, ho, hb⟩ => ⟨B, m, d, he, ho.il, hb⟩
theorem powZ_PN {k : Nat} {a : List Nat} (h : PN k a) (i : Int) : PN k (powZ a i) := ⟨powN_isP h.1 _, by unfold powZ; rw [powN_length]; exact h.2⟩
theorem eqB_decide {xs ys : List Int} {b : Bool} (h : xs = ys ↔ b = true) : eqB xs ys = b := by
  cases b
  · exact eqB_false (fun e => by have := h.1 e; cases this)
  · exact eqB_true (h.2 rfl)

set_option maxHeartbeats 4000000 in
theorem permPowers_any (n : Int) (A : Option Addr) (la ca : Nat) (ra : List Int) (i0 k0 : Int) (w : World) (ha : IL w A la ra) :
    Calls Try.prog 8 #[.int .i64 n, .slice A la ca, .int .i64 i0, .int .i64 k0] w fun e w' => e = .returned (.bool true) ∧ Below w.heap.size w w' := by
  obtain ⟨k, hk, hnk⟩ := below_zero (n := n) (m := 10) (by omega)
  obtain ⟨i1, hi1, hni⟩ := below_zero (n := i0) (m := 1000) (by omega)
  obtain ⟨k1, hk1, hnk1⟩ := below_zero (n := k0) (m := 1000) (by omega)
  have HM : Hid (∀ w, Calls Try.prog 31 #[.int .i64 n, .int .i64 10] w fun e w' => e = .returned (.int .i64 k) ∧ w = w') := fun w => by
    have := mbelow_any n 10 w (by omega) (by omega)
    rw [hnk] at this
    exact this
  have HI : Hid (∀ w, Calls Try.prog 31 #[.int .i64 i0, .int .i64 1000] w fun e w' => e = .returned (.int .i64 i1) ∧ w = w') := fun w => by
    have := mbelow_any i0 1000 w (by omega) (by omega)
    rw [hni] at this
    exact this
  have HK : Hid (∀ w, Calls Try.prog 31 #[.int .i64 k0, .int .i64 1000] w fun e w' => e = .returned (.int .i64 k1) ∧ w = w') := fun w => by
    have := mbelow_any k0 1000 w (by omega) (by omega)
    rw [hnk1] at this
    exact this
  clear hnk hni hnk1
  go_enter Try.func8, Try.ntmps8
  go_wp2_with fail
  refine (HM.out _).mono ?_
  rintro e w0 ⟨rfl, rfl⟩
  go_wp2_with fail
  refine (mperm_below k A la ca ra _ ha (by omega)).mono ?_
  rintro e w1 ⟨x, A1, n1, c1, rfl, hx, hcx, px, lx, -, hb01⟩
  clear ha
  have HX : Hid (PN k x) := ⟨px, lx⟩
  have hk9 : k ≤ 9 := by omega
  have hn1 : n1 = k := by have := hx.len; rw [zs_length] at this; omega
  subst hn1
  clear px lx
  go_wp2_with fail
  refine (HI.out _).mono ?_
  rintro e w0 ⟨rfl, rfl⟩
  go_wp2_with fail
  refine (HK.out _).mono ?_
  rintro e w0 ⟨rfl, rfl⟩
  go_wp2_with fail
  have HX9 : Hid (x.length ≤ 9) := by rw [HX.out.2]; exact hk9
  refine (power_il A1 n1 c1 x ((i1 : Int) - 500) _ hx HX.out.1 HX9.out).mono ?_
  rintro e w2 ⟨A2, n2, c2, rfl, hp, hb2⟩
  have hx := hx.below hb2
  have hb02 := hb01.trans (hb2.mono hb01.size)
  clear hb01 hb2
  go_wp2_with fail
  refine (power_il A1 n1 c1 x ((k1 : Int) - 500) _ hx HX.out.1 HX9.out).mono ?_
  rintro e w3 ⟨A3, n3, c3, rfl, hq, hb3⟩
  have hx := hx.below hb3
  have hp := hp.below hb3
  have hb03 := hb02.trans (hb3.mono hb02.size)
  clear hb02 hb3
  go_wp2_with fail
  refine (power_il A1 n1 c1 x ((i1 : Int) - 500 + ((k1 : Int) - 500)) _ hx HX.out.1 HX9.out).mono ?_
  rintro e w4 ⟨A4, n4, c4, rfl, hr, hb4⟩
  have hx := hx.below hb4
  have hp := hp.below hb4
  have hq := hq.below hb4
  have hb04 := hb03.trans (hb4.mono hb03.size)
  clear hb03 hb4
  go_wp2_with fail
  refine (order_ok A1 n1 c1 x _ hx HX.out.1 HX9.out).mono ?_
  have ho := ord_pos HX.out.1 HX9.out
  have HZ := hide (powZ_add HX.out.1 ho.1 ((i1 : Int) - 500) ((k1 : Int) - 500))
  have HJ := hide (fun (j : Nat) h1 h2 => powZ_id HX.out.1 ho.1 (j := j) h1 h2)
  have ho1 := ho.1
  have ho2 := ho.2
  clear ho
  generalize ordL (cycs x) = o at *
  rintro e w5 ⟨rfl, hb5⟩
  have hx := hx.below hb5
  have hp := hp.below hb5
  have hq := hq.below hb5
  have hr := hr.below hb5
  have hb05 := hb04.trans (hb5.mono hb04.size)
  clear hb04 hb5
  have ho3 : ¬ (o : Int) < 1 := by omega
  go_wp2_with fail
  refine (kpermuted_any _).mono ?_
  rintro e w6 ⟨rfl, hb6⟩
  have hx := hx.below hb6
  have hp := hp.below hb6
  have hq := hq.below hb6
  have hr := hr.below hb6
  have hb06 := hb05.trans (hb6.mono hb05.size)
  clear hb05 hb6
  go_wp2_with fail
  refine (kcompose_il n1 _ _ _ _ _ _ _ _ _ hp hq (powZ_PN HX.out _) (powZ_PN HX.out _) hk9).mono ?_
  rw [HZ.out]
  rintro e w7 ⟨A7, n7, c7, rfl, hpq, -, hb7⟩
  have hx := hx.below hb7
  have hr := hr.below hb7
  have hb07 := hb06.trans (hb7.mono hb06.size)
  clear hb06 hb7 hp hq
  go_wp2_with fail
  refine (equal_yes _ _ _ _ _ _ _ _ _ hpq hr rfl).mono ?_
  rintro e w8 ⟨rfl, hb8⟩
  have hx := hx.below hb8
  have hb08 := hb07.trans (hb8.mono hb07.size)
  clear hb07 hb8 hpq hr
  go_wp2
  go_loopw [18] (fun jv wr => ∃ j : Nat, 1 ≤ j ∧ j ≤ o + 1 ∧ jv = .int .i64 j ∧ Below w8.heap.size w8 wr) (fun jv _ => o + 1 - (intOf jv).toNat)
  case atStart => exact ⟨1, Nat.le_refl _, by omega, rfl, Below.refl _ _⟩
  case round =>
    obtain ⟨j, hj1, hj2, rfl, hnx⟩ := hrel
    have hx := hx.below hnx
    by_cases hlt : j ≤ o
    · have hJ := HJ.out j hj1 hlt
      rw [HX.out.2] at hJ
      have HE := hide hJ
      clear hJ
      go_wp2_with fail
      refine (power_il A1 n1 c1 x (j : Int) _ hx HX.out.1 HX9.out).mono ?_
      rintro e w9 ⟨A9, n9, c9, rfl, hy, hb9⟩
      have hb89 := hnx.trans (hb9.mono hnx.size)
      clear hb9
      go_wp2_with fail
      refine (mperm_below n1 none 0 0 [] _ (IL.nil_ _) (by omega)).mono ?_
      rintro e w10 ⟨u, A10, n10, c10, rfl, hu, -, -, -, hone, hb10⟩
      have hy := hy.below hb10
      have hb810 := hb89.trans (hb10.mono hb89.size)
      have HU := hide (hone rfl)
      clear hb10 hb89 hone
      go_wp2_with fail
      refine (equal_any _ _ _ _ _ _ _ _ _ hy hu).mono ?_
      by_cases hjo : j = o
      · have hb1 : ((j : Int) == (o : Int)) = true := by simp [hjo]
        have HQ : Hid (eqB (zs (powZ x (j : Int))) (zs u) = true) := eqB_true (by rw [HU.out, HE.out.2 hjo])
        rw [HQ.out]
        rintro e w11 ⟨rfl, hb11⟩
        have hb811 := hb810.trans (hb11.mono hb810.size)
        clear hb11 hjo
        go_wp2
        go_roundw
        case rel => exact ⟨j + 1, by omega, by omega, by go_num, hb811⟩
        case measure => simp [intOf]; omega
      · have hb1 : ((j : Int) == (o : Int)) = false := by simp; omega
        have HQ : Hid (eqB (zs (powZ x (j : Int))) (zs u) = false) := eqB_false (fun e => hjo (HE.out.1 (by rw [← HU.out]; exact zs_inj e)))
        rw [HQ.out]
        rintro e w11 ⟨rfl, hb11⟩
        have hb811 := hb810.trans (hb11.mono hb810.size)
        clear hb11 hjo
        go_wp2
        go_roundw
        case rel => exact ⟨j + 1, by omega, by omega, by go_num, hb811⟩
        case measure => simp [intOf]; omega
    · go_wp2
      go_ret
      exact ⟨rfl, hb08.trans (hnx.mono hb08.size)⟩
end Go.Proofs.Ytpemnhalilefmaa
