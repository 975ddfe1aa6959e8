/- timbref1.Rooted: the root of a word. -/
import Derived.Test.YtbckgomidoelaaaRepeat
import Derived.Test.YtbckgomidoelaaaCore2
import Derived.Test.YtbckgomidoelaaaConcat
import Derived.Test.YtbckgomidoelaaaEqual
namespace Go.Proofs.Ytbckgomidoelaaa
set_option linter.unusedVariables false
set_option linter.unusedSimpArgs false
open Go.RowKit

theorem core_ne {w : List Int} (hr : Red w) (hne : w ≠ []) : (core w).1 ≠ [] := by
  intro h
  have h1 := (core_spec w).1
  rw [h, List.append_nil] at h1
  have h2 := nf_of_red hr
  rw [h1, nf_mul_inv] at h2
  exact hne (by rw [h1]; exact h2.symm)
theorem core_len (w : List Int) : (core w).1.length + 2 * (core w).2.length = w.length := by
  have h := congrArg List.length (core_spec w).1
  rw [List.length_append, List.length_append, invw_length] at h
  omega
theorem core_mem2 {w : List Int} {x : Int} (h : x ∈ (core w).2) : x ∈ w := by
  rw [(core_spec w).1]
  exact List.mem_append_left _ (List.mem_append_left _ h)
theorem core_mem1 {w : List Int} {x : Int} (h : x ∈ (core w).1) : x ∈ w := by
  rw [(core_spec w).1]
  exact List.mem_append_left _ (List.mem_append_right _ h)

set_option maxRecDepth 100000 in
set_option maxHeartbeats 2000000 in
theorem rooted_any (A : Option Addr) (n c : Nat) (xs : List Int) (w : World) (ha : IL w A n xs) (hA : A = none → n = 0 ∧ c = 0) (hb : ∀ x ∈ xs, -1000 ≤ x ∧ x ≤ 1000) (hn : n ≤ 1000) (hne : nf xs ≠ []) :
    Calls Try.prog 21 #[.slice A n c] w fun e w' => ∃ (d : List Int) (k : Nat) (R : Option Addr) (rn rc : Nat), IsRoot (core (nf xs)).1 d k ∧ e = .returned (.tuple #[.slice R rn rc, .int .i64 k]) ∧
      OwnI w' w.heap.size R rn rc ((core (nf xs)).2 ++ d ++ invw (core (nf xs)).2) ∧ Below w.heap.size w w' := by
  have hl := ha.len
  have hb1 : ∀ x ∈ nf xs, -1000 ≤ x ∧ x ≤ 1000 := fun x hx => hb x (nf_mem hx)
  have hb2 : ∀ x ∈ (core (nf xs)).2, -1000 ≤ x ∧ x ≤ 1000 := fun x hx => hb1 x (core_mem2 hx)
  have hnl := nf_len_le xs
  have hcl := core_len (nf xs)
  have hcne := core_ne (nf_red xs) hne
  have HS := hide (short_any A n c xs w ha hA hb)
  have HB1 := hide hb1
  generalize nf xs = W at *
  obtain ⟨C0, hC0⟩ : ∃ C0, (core W).1 = C0 := ⟨_, rfl⟩
  obtain ⟨U0, hU0⟩ : ∃ U0, (core W).2 = U0 := ⟨_, rfl⟩
  rw [hC0] at hcl hcne ⊢
  rw [hU0] at hcl hb2 ⊢
  have HB2 := hide hb2
  have HC0 := hide hC0
  have HU0 := hide hU0
  have HCN := hide hcne
  have hCL : C0.length ≤ 1000 := by omega
  have hUL : U0.length ≤ 1000 := by omega
  have HWL : Hid (W.length ≤ 1000) := hide (by omega)
  clear ha hA hb hb1 hb2 hC0 hU0 hcne hnl hcl hl hne
  go_enter Try.func21, Try.ntmps21
  go_wp2_with fail
  refine HS.out.mono ?_
  rintro e w1 ⟨A1, n1, c1, rfl, ho1, hb1⟩
  clear HS
  have HO1 := hide ho1
  have HB01 := hide hb1
  clear ho1 hb1
  go_wp2_with fail
  refine (core_any n1 A1 n1 c1 W w1 (Nat.le_refl _) HO1.out.il HO1.out.nil HO1.out.cap HO1.out.capMax HB1.out).mono ?_
  rintro e w2 ⟨C, cn, cc, U, un, uc, rfl, hc, hcn, hcle, hu, hun, hule, hccm, hb2⟩
  rw [HC0.out] at hc
  rw [HU0.out] at hu
  have hb02 := HB01.out.trans (hb2.mono HB01.out.size)
  have hlc := hc.len
  have hlu := hu.len
  have HC := hide hc
  have HU := hide hu
  have HUN := hide hun
  have HB02 := hide hb02
  have hcn1 : cn ≤ 1000 := by omega
  have hun1 : un ≤ 1000 := by omega
  have hcn0 : 0 < cn := by rw [← hlc]; exact List.length_pos_iff.2 HCN.out
  have HLC := hide hlc
  have HLU := hide hlu
  have HCC := hide hcle
  clear hc hu hun hb2 hb02 hlc hlu HO1 HB01 hcle hcn
  go_wp2_with fail
  go_loopw [6] (fun kv wr => ∃ k : Nat, 0 < k ∧ k ≤ cn ∧ kv = .int .i64 k ∧ Hid (∀ j, k < j → j ≤ C0.length → ¬ (j ∣ C0.length ∧ C0 = rep (C0.take (C0.length / j)) j)) ∧ Below w.heap.size w wr ∧ IL wr C cn C0 ∧ IL wr U un U0) (fun kv _ => (intOf kv).toNat)
  case atStart => exact ⟨cn, hcn0, Nat.le_refl _, rfl, fun j h1 h2 => absurd h2 (by rw [HLC.out]; omega), HB02.out, HC.out, HU.out⟩
  case round =>
    clear HC HU HB02
    obtain ⟨k, hk0, hkn, rfl, HT, hb, hc, hu⟩ := hrel
    have HB := hide hb
    have HC := hide hc
    have HU := hide hu
    clear hb hc hu
    have hkz : ¬ ((k : Int) = 0) := by omega
    by_cases hdv : cn % k = 0
    · obtain ⟨q, hq⟩ : ∃ q, cn / k = q := ⟨_, rfl⟩
      have hkq : k * q = cn := by rw [← hq]; exact Nat.mul_div_cancel' (Nat.dvd_of_mod_eq_zero hdv)
      have hq0 : 0 < q := Nat.pos_of_ne_zero (fun h => by rw [h] at hkq; omega)
      have hqn : q ≤ cn := by rw [← hkq]; exact Nat.le_mul_of_pos_left q hk0
      have hquo : (cn : Int) / (k : Int) = (q : Int) := by rw [← hq]; exact (Int.natCast_ediv _ _).symm
      have HKQ := hide hkq
      have HP := hide (HC.out.pre hqn)
      have HR := hide (repeat_any C q cc k _ wr HP.out hq0 hk0 (by rw [hkq]; omega))
      clear hkq hq
      have hqcc : q ≤ cc := Nat.le_trans hqn HCC.out
      go_wp2_with fail
      refine HR.out.mono ?_
      rintro e w3 ⟨D, dn, dc, rfl, hd, hb3⟩
      have HB3 := hide hb3
      have HE := hide (equal_any D C dn cn dc cc _ _ w3 hd.il (HC.out.below hb3))
      clear hd hb3 HR
      by_cases heq : rep (C0.take q) k = C0
      · have hroot : IsRoot C0 (C0.take q) k := by
          have e1 : C0.length / k = q := by rw [HLC.out, ← HKQ.out]; exact Nat.mul_div_cancel_left q hk0
          rw [← e1]
          exact isRoot_of_try HCN.out hk0 (by rw [HLC.out, ← HKQ.out]; exact Nat.dvd_mul_right _ _) (by rw [e1]; exact heq.symm) HT.out
        have HROOT := hide hroot
        have HQ := hide (eqB_true heq)
        have hqb : eqB (rep (C0.take q) k) C0 = true := eqB_true heq
        clear HT hroot heq
        go_wp2_with fail
        refine HE.out.mono ?_
        rintro e w4 ⟨rfl, hb4⟩
        rw [HQ.out]
        have hb04 := (HB.out.trans (HB3.out.mono HB.out.size)).trans (hb4.mono (HB.out.trans (HB3.out.mono HB.out.size)).size)
        have hbr4 := HB3.out.trans (hb4.mono HB3.out.size)
        have HU4 := hide (HU.out.below hbr4)
        have HP4 := hide (HP.out.below hbr4)
        have HB4 := hide hb04
        have HO := hide (opposite_any U un uc U0 w4 HU4.out HB2.out)
        clear hb4 hb04 hbr4 HE
        go_wp2_with fail
        refine HO.out.mono ?_
        rintro e w5 ⟨O, on, oc, rfl, ho5, hb5⟩
        have HB5 := hide hb5
        have HB05 := hide (HB4.out.trans (hb5.mono HB4.out.size))
        have HI3 := hide (show ILL (w5.alloc (.cells #[.slice U un uc, .slice C q cc, .slice O on oc] 22)) (some ⟨w5.heap.size, 0, none⟩) 3 [U0, C0.take q, invw U0] from
          ILL.lit (vs := [.slice U un uc, .slice C q cc, .slice O on oc]) rfl (by simp) (fun j hj => by
            match j, hj with
            | 0, _ => exact ⟨_, _, _, rfl, HU4.out.below hb5⟩
            | 1, _ => exact ⟨_, _, _, rfl, HP4.out.below hb5⟩
            | 2, _ => exact ⟨_, _, _, rfl, ho5.il⟩
            | j + 3, h => exact absurd h (by simp)) rfl rfl)
        have HCC2 := hide (concat_any (some ⟨w5.heap.size, 0, none⟩) 3 3 _ _ HI3.out (by
          simp only [List.flatten_cons, List.flatten_nil, List.length_append, List.length_nil, invw_length, List.length_take, HLU.out, HLC.out]
          omega))
        have HB6 := hide (HB05.out.alloc (Nat.le_trans HB05.out.size (Nat.le_refl _)) (.cells #[.slice U un uc, .slice C q cc, .slice O on oc] 22))
        clear ho5 hb5 HO
        go_wp2_with fail
        refine HCC2.out.mono ?_
        rintro e w7 ⟨R, rn, rc, rfl, ho7, hb7⟩
        have hb07 := HB6.out.trans (hb7.mono HB6.out.size)
        have HO7 := hide (ho7.mono HB6.out.size)
        go_wp2_with fail
        go_ret2
        refine ⟨C0.take q, k, R, rn, rc, HROOT.out, rfl, ?_, hb07⟩
        have h := HO7.out
        simpa using h
      · have HQ := hide (eqB_false heq)
        have hk2 : k ≠ 1 := fun h => by
          have hkq := HKQ.out
          rw [h, Nat.one_mul] at hkq
          apply heq
          rw [h, rep_one, hkq, List.take_of_length_le (by rw [HLC.out]; omega)]
        have HT2 : Hid (∀ j, k - 1 < j → j ≤ C0.length → ¬ (j ∣ C0.length ∧ C0 = rep (C0.take (C0.length / j)) j)) := by
          intro j hj hjl
          by_cases h : j = k
          · subst h
            rintro ⟨_, h2⟩
            have e1 : C0.length / j = q := by rw [HLC.out, ← HKQ.out]; exact Nat.mul_div_cancel_left q hk0
            rw [e1] at h2
            exact heq h2.symm
          · exact HT.out j (by omega) hjl
        clear HT heq
        go_wp2_with fail
        refine HE.out.mono ?_
        rintro e w4 ⟨rfl, hb4⟩
        rw [HQ.out]
        have hb04 := (HB.out.trans (HB3.out.mono HB.out.size)).trans (hb4.mono (HB.out.trans (HB3.out.mono HB.out.size)).size)
        have hbr4 := HB3.out.trans (hb4.mono HB3.out.size)
        have HU4 := hide (HU.out.below hbr4)
        have HC4 := hide (HC.out.below hbr4)
        have HB4 := hide hb04
        clear hb4 hb04 hbr4 HE
        go_wp2_with fail
        refine ⟨⟨k - 1, by omega, by omega, by go_num, HT2.out, HB4.out, HC4.out, HU4.out⟩, ?_⟩
        simp [intOf]
        omega
    · have hk2 : k ≠ 1 := fun h => hdv (by rw [h]; exact Nat.mod_one _)
      have HT2 : Hid (∀ j, k - 1 < j → j ≤ C0.length → ¬ (j ∣ C0.length ∧ C0 = rep (C0.take (C0.length / j)) j)) := by
        intro j hj hjl
        by_cases h : j = k
        · subst h
          rintro ⟨h1, _⟩
          rw [HLC.out] at h1
          exact hdv (Nat.mod_eq_zero_of_dvd h1)
        · exact HT.out j (by omega) hjl
      clear HT
      go_wp2_with fail
      refine ⟨⟨k - 1, by omega, by omega, by go_num, HT2.out, HB.out, HC.out, HU.out⟩, ?_⟩
      simp [intOf]
      omega
end Go.Proofs.Ytbckgomidoelaaa
