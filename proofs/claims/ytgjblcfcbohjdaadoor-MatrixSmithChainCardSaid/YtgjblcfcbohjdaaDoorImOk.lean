/- Package intmatrix: Solutions; the package keeps its contracts. -/
import Derived.Test.YtgjblcfcbohjdaaDoorIm5
import Derived.Test.YtgjblcfcbohjdaaDoorSolS
import Derived.Test.YtgjblcfcbohjdaaDoorLawMDets
import Derived.Test.YtgjblcfcbohjdaaDoorLawMSmiths
import Derived.Test.YtgjblcfcbohjdaaDoorLawMSolutions
import Derived.Test.YtgjblcfcbohjdaaDoorLawMTimes
import Derived.Test.YtgjblcfcbohjdaaDoorLawMTurned
import Derived.Test.YtgjblcfcbohjdaaDoorLawMCounts
import Derived.Test.YtgjblcfcbohjdaaDoorLawMChain
namespace Go.Proofs.YtgjblcfcbohjdaaDoor
set_option linter.unusedVariables false
set_option linter.unusedSimpArgs false
open Go.RowKit

theorem chN_low {n q : Nat} {s : Nat → Int} {i : Nat} (h : i < n) : chN n q s i = Int.gcd ((s i).natAbs : Int) q := by
  unfold chN
  rw [if_pos h]
  simp [Int.gcd]
theorem chN_high {n q : Nat} {s : Nat → Int} {i : Nat} (h : n ≤ i) : chN n q s i = q := by
  unfold chN
  rw [if_neg (by omega)]
theorem pow13 : ∀ m : Nat, m < 7 → 13 ^ m ≤ 4826809 := by decide

set_option maxRecDepth 100000 in
set_option maxHeartbeats 4000000 in
theorem imsol_any (A : Option Addr) (n c : Nat) (xss : List (List Int)) (q : Int) (w : World) (ha : SLL w A n c xss) (hT : TabW w) (hwf : (Lit.int .i64 q).wf = true) :
    Calls Tryd.prog 19 #[.slice A n c, .int .i64 q] w fun e w' => e = .returned (.tuple #[.int .i64 (solV xss q), .int .i64 (solE xss q)]) ∧ Below w.heap.size w w' := by
  have HCK := hide (imcheck_any A n c xss w ha.ill)
  have hl := ha.len
  have hsm := ha.small
  by_cases hf : mfault xss = 0
  · rw [hf] at HCK
    by_cases hq : q < 1 ∨ 13 < q
    · have HE : Hid (solE xss q = 1) := hide (by unfold solE; rw [if_pos hf, if_pos hq])
      have HV : Hid (solV xss q = 0) := hide (by unfold solV; rw [if_neg (by rw [HE.out]; decide)])
      rw [HE.out, HV.out]
      clear ha hT hf hl HE HV hwf
      by_cases h1 : q < 1
      · have hd1 : decide (q < 1) = true := decide_eq_true h1
        clear hq
        go_enter Tryd.func19, Tryd.ntmps19
        go_wp2_with fail
        refine HCK.out.mono ?_
        rintro e w' ⟨rfl, rfl⟩
        go_wp2_with fail
        go_ret2
        exact ⟨rfl, Below.refl _ _⟩
      · have hd1 : decide (q < 1) = false := decide_eq_false h1
        have hd2 : decide ((13 : Int) < q) = true := decide_eq_true (by omega)
        clear hq
        go_enter Tryd.func19, Tryd.ntmps19
        go_wp2_with fail
        refine HCK.out.mono ?_
        rintro e w' ⟨rfl, rfl⟩
        go_wp2_with fail
        go_ret2
        exact ⟨rfl, Below.refl _ _⟩
    · obtain ⟨k, rfl⟩ : ∃ k : Nat, q = k := ⟨q.toNat, by omega⟩
      have hk0 : 0 < k := by omega
      have hk1 : k ≤ 13 := by omega
      have hd1 : decide ((k : Int) < 1) = false := decide_eq_false (by omega)
      have hd2 : decide ((13 : Int) < (k : Int)) = false := decide_eq_false (by omega)
      have HE : Hid (solE xss k = 0) := hide (by unfold solE; rw [if_pos hf, if_neg hq])
      obtain ⟨hn6, hm6, hrow, _⟩ := mat_rows hf
      have HV : Hid (solV xss k = (pN (colsM xss) (chN n k (smithS n (colsM xss) (matF xss))) : Nat)) := hide (by
        unfold solV
        rw [if_pos HE.out, Int.toNat_natCast, solN_smith hk0 hk1 hrow (smithS_el _ _ _), hl])
      rw [HE.out, HV.out]
      rw [hl] at hn6
      have HCO := hide (fun (w : World) (h : SLL w A n c xss) => columns_any A n c xss w h)
      have HFA := hide (imfactors_any A n c _ xss w ha hf hT rfl)
      have HA := hide ha
      obtain ⟨s, hs⟩ : ∃ s, smithS n (colsM xss) (matF xss) = s := ⟨_, rfl⟩
      rw [hs] at HFA ⊢
      clear ha hT hf hl HE HV hwf hq hrow hs
      generalize colsM xss = m at *
      have HPL : Hid (∀ i, i ≤ m → pN i (chN n k s) ≤ 4826809) := hide (fun i hi => Nat.le_trans (pN_le (b := 13) fun j _ => Nat.le_trans (chN_le hk0 s j) hk1) (pow13 i (by omega)))
      have HLO : Hid (∀ i, i < min n m → pN (i + 1) (chN n k s) = pN i (chN n k s) * Int.gcd ((s i).natAbs : Int) k) := hide (fun i hi => by
        show pN i (chN n k s) * chN n k s i = _
        rw [chN_low (by omega)])
      have HHI : Hid (∀ i, min n m ≤ i → i < m → pN (i + 1) (chN n k s) = pN i (chN n k s) * k) := hide (fun i h1 h2 => by
        show pN i (chN n k s) * chN n k s i = _
        rw [chN_high (by omega)])
      obtain ⟨K, hK⟩ : ∃ K, min n m = K := ⟨_, rfl⟩
      rw [hK] at HFA HLO HHI
      have hKm : K ≤ m := by omega
      have HFL : Hid (∀ i, i < K → (facL s K).getD i 0 = ((s i).natAbs : Int)) := hide (fun i hi => by simp [facL, List.getD, hi])
      obtain ⟨P, hP⟩ : ∃ P, (fun i => pN i (chN n k s)) = P := ⟨_, rfl⟩
      have hPi : ∀ i, pN i (chN n k s) = P i := fun i => by rw [← hP]
      simp only [hPi] at HPL HLO HHI ⊢
      have HP0 : Hid (P 0 = 1) := hide (by rw [← hPi]; rfl)
      clear hP hPi hK
      go_enter Tryd.func19, Tryd.ntmps19
      go_wp2_with fail
      refine HCK.out.mono ?_
      rintro e w' ⟨rfl, rfl⟩
      go_wp2_with fail
      refine HFA.out.mono ?_
      rintro e w2 ⟨b, rfl, ho, hb, hsl⟩
      have HO := hide ho
      have HB := hide hb
      have HSL := hide hsl
      clear ho hb hsl HFA HCK
      go_wp2_with fail
      go_loopw [8, 26] (fun sv iv wr => ∃ i : Nat, i ≤ K ∧ iv = .int .i64 i ∧ sv = .int .i64 (P i : Nat) ∧ Below w2.heap.size w2 wr) (fun _ iv _ => K - (intOf iv).toNat)
      case atStart => exact ⟨0, Nat.zero_le _, rfl, by rw [HP0.out]; rfl, Below.refl _ _⟩
      case round =>
        clear HP0
        obtain ⟨i, hi, rfl, rfl, hbw⟩ := hrel
        have HBW := hide hbw
        have HOW := hide (HO.out.below hbw)
        clear hbw
        have hpi := HPL.out i (by omega)
        by_cases hlt : i < K
        · have hcl := HOW.out.cell hlt
          rw [HFL.out i hlt] at hcl
          have hsb := HSL.out i hlt
          have HGC := hide (fun (w : World) => imgcd_any ((s i).natAbs : Int) (k : Int) w (by omega) (by omega))
          have HN := hide (HLO.out i hlt)
          have hpn := HPL.out (i + 1) (by omega)
          rw [HN.out] at hpn
          generalize Int.gcd ((s i).natAbs : Int) k = d at *
          generalize ((s i).natAbs : Int) = x at *
          have hw1 : IntKind.i64.wrap ((P i : Int) * (d : Int)) = ((P i * d : Nat) : Int) := by
            rw [← Int.natCast_mul, IntKind.wrap_i64]; omega
          clear hpn hsb hpi
          go_wp2_with fail
          refine (HGC.out _).mono ?_
          rintro e w5 ⟨rfl, hb5⟩
          have HB5 := hide (HBW.out.trans (hb5.mono HBW.out.size))
          clear hb5 hcl
          go_wp2_with (simp only [hw1])
          go_roundw
          case rel => exact ⟨i + 1, by omega, by go_num, by rw [HN.out, Int.natCast_mul], HB5.out⟩
          case measure => simp [intOf]; omega
        · have hiK : i = K := by omega
          subst hiK
          have HBA := hide (HB.out.trans (HBW.out.mono HB.out.size))
          have hjm : ((m : Int) - (i : Int)) = ((m - i : Nat) : Int) := by omega
          go_wp2_with fail
          refine (HCO.out _ (HA.out.below HBA.out)).mono ?_
          rintro e w' ⟨rfl, rfl⟩
          go_wp2_with fail
          go_loop [8, 41] (fun sv jv => ∃ j : Nat, i + j ≤ m ∧ jv = .int .i64 j ∧ sv = .int .i64 (P (i + j) : Nat)) (fun _ jv => m - i - (intOf jv).toNat)
          case atStart => exact ⟨0, by omega, rfl, rfl⟩
          case round =>
            obtain ⟨j, hj, rfl, rfl⟩ := hrel
            have hpj := HPL.out (i + j) hj
            by_cases hjl : i + j < m
            · have HN := hide (HHI.out (i + j) (by omega) hjl)
              have hpn := HPL.out (i + j + 1) (by omega)
              rw [HN.out] at hpn
              have hw1 : IntKind.i64.wrap ((P (i + j) : Int) * (k : Int)) = ((P (i + j) * k : Nat) : Int) := by
                rw [← Int.natCast_mul, IntKind.wrap_i64]; omega
              clear hpn
              go_wp2_with (simp only [hw1])
              go_round
              case rel => exact ⟨j + 1, by omega, by go_num, by rw [show i + (j + 1) = i + j + 1 by omega, HN.out, Int.natCast_mul]⟩
              case measure => simp [intOf]; omega
            · have hjm : i + j = m := by omega
              have HJM := hide hjm
              clear hpi
              go_wp2_with fail
              go_ret2
              refine ⟨?_, HBA.out⟩
              rw [← HJM.out]
              rfl
  · have HE : Hid (solE xss q = mfault xss) := hide (by unfold solE; rw [if_neg hf])
    have HV : Hid (solV xss q = 0) := hide (by unfold solV; rw [if_neg (by rw [HE.out]; exact hf)])
    rw [HE.out, HV.out]
    generalize mfault xss = E at *
    have hb0 : (E != 0) = true := by simpa using hf
    clear ha hT HE HV hwf
    go_enter Tryd.func19, Tryd.ntmps19
    go_wp2_with fail
    refine HCK.out.mono ?_
    rintro e w' ⟨rfl, rfl⟩
    go_wp2_with fail
    go_ret2
    exact ⟨rfl, Below.refl _ _⟩

/-- THE PACKAGE KEEPS ITS CONTRACTS. -/
theorem matC : MatC where
  check := fun A n c xss w h => imcheck_below A n c xss w h
  det := fun A n c xss w h hT => imdet_any A n c xss w h hT
  smith := fun A n c xss w h hT => imsmith_any A n c xss w h hT
  rank := fun A n c xss w h hT => imrank_any A n c xss w h hT
  solutions := fun A n c xss q w h hT hwf => imsol_any A n c xss q w h hT hwf
end Go.Proofs.YtgjblcfcbohjdaaDoor
