/- timbkeep1.MatchingCounts, for a package temperleylieb that answers as it should: CATALAN. -/
import Derived.Test.YthhcjnmlpojjeaaTlZ
import Derived.Test.YthhcjnmlpojjeaaTlM
import Derived.Test.YthhcjnmlpojjeaaBin
namespace Go.Proofs.Ythhcjnmlpojjeaa
set_option linter.unusedVariables false
set_option linter.unusedSimpArgs false
open Go.RowKit

theorem cat_ok {t : Nat} (ht : t < 6) : ([1, 2, 5, 14, 42, 132] : List Int).getD t 0 = ((Tl.plan (1 + t)).length : Int) := by
  obtain ⟨c1, c2, c3, c4, c5, c6⟩ := plan_len
  rcases (show t = 0 ∨ t = 1 ∨ t = 2 ∨ t = 3 ∨ t = 4 ∨ t = 5 by omega) with h | h | h | h | h | h <;> subst h
  · rw [c1]; rfl
  · rw [c2]; rfl
  · rw [c3]; rfl
  · rw [c4]; rfl
  · rw [c5]; rfl
  · rw [c6]; rfl
theorem plan_len_le {n : Nat} (h1 : 1 ≤ n) (h6 : n ≤ 6) : (Tl.plan n).length ≤ 132 := by
  obtain ⟨c1, c2, c3, c4, c5, c6⟩ := plan_len
  rcases (show n = 1 ∨ n = 2 ∨ n = 3 ∨ n = 4 ∨ n = 5 ∨ n = 6 by omega) with h | h | h | h | h | h <;> subst h <;> omega
theorem elL_ok {n : Nat} (h1 : 1 ≤ n) (h6 : n ≤ 6) : elL (n : Int) = (Tl.plan n).map zs := by unfold elL; rw [tlE_ok h1 h6, if_pos rfl, Int.toNat_natCast]

set_option maxRecDepth 100000 in
set_option maxHeartbeats 8000000 in
theorem matchingCounts_any (F : TlC) (m : Int) (A : Option Addr) (k c : Nat) (ys : List Int) (w : World) (ha : SL w A k c ys) :
    Calls Try.prog 8 #[.int .i64 m, .slice A k c] w fun e w' => e = .returned (.bool true) ∧ Below w.heap.size w w' := by
  have HF := hide F
  have HA := hide ha
  have hnt := Bool.not_true
  clear F ha
  have HB1 := hide (mbelow_any m 6 w (by omega) (by omega))
  obtain ⟨t, ht⟩ : ∃ t : Nat, m % (6 : Int) = (t : Int) := ⟨(m % (6 : Int)).toNat, by have := Int.emod_nonneg m (show (6 : Int) ≠ 0 by omega); omega⟩
  have ht6 : t < 6 := by have := Int.emod_lt_of_pos m (show (0 : Int) < 6 by omega); omega
  replace HB1 : Hid (Calls Try.prog 25 #[.int .i64 m, .int .i64 6] w fun e w' => e = .returned (.int .i64 (t : Int)) ∧ w = w') := hide (by rw [← ht]; exact HB1.out)
  obtain ⟨N, hN⟩ : ∃ N, 1 + t = N := ⟨_, rfl⟩
  have hwN : IntKind.i64.wrap (1 + (t : Int)) = (N : Int) := by rw [IntKind.wrap_i64]; omega
  have hwt : IntKind.i64.wrap ((N : Int) - 1) = (t : Int) := by rw [IntKind.wrap_i64]; omega
  have n1 : 1 ≤ N := by omega
  have n6 : N ≤ 6 := by omega
  have HC6 := hide (cat_ok ht6)
  rw [hN] at HC6
  have hL := plan_len_le n1 n6
  have HN := hide hN
  clear ht hN
  have HCK : Hid (∀ (w : World) (D : Option Addr) (dn dc : Nat) (x : List Nat), x ∈ Tl.plan N → SL w D dn dc (zs x) → Calls Try.prog 12 #[.int .i64 (N : Int), .slice D dn dc] w fun e w' => e = .returned (.int .i64 0) ∧ Below w.heap.size w w') := hide (fun w D dn dc x hx h => by
    have := HF.out.check (N : Int) D dn dc _ w h (wf_nat (by omega))
    rwa [plan_fault n1 n6 hx] at this)
  have HEL := hide (fun w => HF.out.elements (N : Int) w (wf_nat (by omega)))
  rw [elL_ok n1 n6, tlE_ok n1 n6] at HEL
  have HPL := hide (fun (d : List Nat) (hd : d ∈ Tl.plan N) => plan_place n6 hd)
  have HLT := hide (fun (i j : Nat) (hij : i < j) (hj : j < (Tl.plan N).length) => plan_lt n6 hij hj)
  have HME : Hid (∀ j, j < (Tl.plan N).length → ∃ x, x ∈ Tl.plan N ∧ ((Tl.plan N).map zs).getD j [] = zs x) := hide (fun j hj => ⟨(Tl.plan N)[j], List.getElem_mem _, by
    rw [List.getD_eq_getElem?_getD, List.getElem?_map, List.getElem?_eq_getElem hj]; rfl⟩)
  obtain ⟨L, hLL⟩ : ∃ L, (Tl.plan N).length = L := ⟨_, rfl⟩
  rw [hLL] at HC6 hL HPL HLT HME
  have HLL := hide hLL
  clear hLL
  go_enter Try.func8, Try.ntmps8
  go_wp2_with fail
  refine HB1.out.mono ?_
  rintro e w1 ⟨rfl, hww⟩
  subst hww
  clear HB1
  go_wp2_with fail
  refine (HEL.out _).mono ?_
  rintro e w2 ⟨E, en, ec, rfl, hs, hb⟩
  have hen : en = L := by have := hs.len; rw [List.length_map, HLL.out] at this; exact this.symm
  subst hen
  have HE := hide hs
  have HW := hide hb
  replace HA := hide (HA.out.below hb)
  clear hs hb HEL
  go_wp2_with fail
  refine (matched_k HF.out _).mono ?_
  rintro e w3 ⟨rfl, hb⟩
  replace HE := hide (HE.out.below hb)
  replace HA := hide (HA.out.below hb)
  replace HW := hide (HW.out.trans (hb.mono HW.out.size))
  clear hb
  have hv : [Value.int IntKind.i64 1, Value.int IntKind.i64 2, Value.int IntKind.i64 5, Value.int IntKind.i64 14, Value.int IntKind.i64 42, Value.int IntKind.i64 132][t]'ht6 = Value.int .i64 (en : Int) := by
    have h6 := HC6.out
    clear HE HA HW HC6 HCK HPL HLT HME HLL HN HF
    rw [← h6]
    rcases (show t = 0 ∨ t = 1 ∨ t = 2 ∨ t = 3 ∨ t = 4 ∨ t = 5 by omega) with h | h | h | h | h | h <;> subst h <;> rfl
  clear HC6
  have hbA : Below w3.heap.size w3 (w3.alloc (.cells #[Value.int IntKind.i64 1, Value.int IntKind.i64 2, Value.int IntKind.i64 5, Value.int IntKind.i64 14, Value.int IntKind.i64 42, Value.int IntKind.i64 132] 3)) := (Below.refl _ _).alloc (Nat.le_refl _) _
  go_upto_region 4 with fail
  replace HE := hide (HE.out.below hbA)
  replace HA := hide (HA.out.below hbA)
  replace HW := hide (HW.out.trans (hbA.mono HW.out.size))
  clear hbA hv
  generalize w3.alloc (.cells #[Value.int IntKind.i64 1, Value.int IntKind.i64 2, Value.int IntKind.i64 5, Value.int IntKind.i64 14, Value.int IntKind.i64 42, Value.int IntKind.i64 132] 3) = w4 at *
  go_wp2_with fail
  go_loopw [40] (fun iv wr => ∃ j : Nat, iv = .int .i64 j ∧ j ≤ en ∧ Hid (SLL wr E en ec ((Tl.plan N).map zs)) ∧ Hid (SL wr A k c ys) ∧ Hid (Below w.heap.size w wr)) (fun iv _ => en - (intOf iv).toNat)
  case atStart => exact ⟨0, rfl, Nat.zero_le _, HE, HA, HW⟩
  case round =>
    clear HE HA HW
    obtain ⟨j, rfl, hj, HE, HA, HW⟩ := hrel
    by_cases hlt : j < en
    · obtain ⟨x, hx, hgx⟩ := HME.out j hlt
      by_cases hj0 : j = 0
      · have hd0 : decide ((0 : Int) < (j : Int)) = false := decide_eq_false (by omega)
        have hd1 : decide (0 < j) = false := decide_eq_false (by omega)
        obtain ⟨ad, B, bm, bd, rfl, hcl, hsb⟩ := HE.out.at_ hlt
        rw [hgx] at hsb
        have HQ := hide (HCK.out wr B bm bd x hx hsb)
        clear hsb hgx hx hj0
        go_wp2_with fail
        refine HQ.out.mono ?_
        rintro e w5 ⟨rfl, hb⟩
        replace HE := hide (HE.out.below hb)
        replace HA := hide (HA.out.below hb)
        replace HW := hide (HW.out.trans (hb.mono HW.out.size))
        clear hb HQ hcl
        go_wp2_with fail
        go_roundw
        case measure => show en - ((j : Int) + 1).toNat < en - ((j : Int)).toNat; omega
        exact ⟨j + 1, rfl, by omega, HE, HA, HW⟩
      · obtain ⟨i, hi⟩ : ∃ i, i + 1 = j := ⟨j - 1, by omega⟩
        have hwi : IntKind.i64.wrap ((j : Int) - 1) = (i : Int) := by rw [IntKind.wrap_i64]; omega
        have hil : i < en := by omega
        have hd0 : decide ((0 : Int) < (j : Int)) = true := decide_eq_true (by omega)
        have hd1 : decide (0 < j) = true := decide_eq_true (by omega)
        have hneg := HLT.out i j (by omega) hlt
        rw [hgx] at hneg
        obtain ⟨y, hy⟩ : ∃ y, ((Tl.plan N).map zs).getD i [] = y := ⟨_, rfl⟩
        rw [hy] at hneg
        obtain ⟨ad, B, bm, bd, rfl, hcl, hsb⟩ := HE.out.at_ hlt
        obtain ⟨ad2, C, cm, cd, he, hcl2, hsc⟩ := HE.out.at_ hil
        obtain rfl := Option.some.inj he
        rw [hgx] at hsb
        rw [hy] at hsc
        have HQ := hide (HCK.out wr B bm bd x hx hsb)
        have HSB := hide hsb
        have HSC := hide hsc
        have HNEG := hide hneg
        have HY := hide hy
        clear hsb hsc hgx hx he hi hy hj0 hneg
        go_wp2_with fail
        refine HQ.out.mono ?_
        rintro e w5 ⟨rfl, hb⟩
        obtain ⟨ad3, C3, cm3, cd3, he, hcl3, hs3⟩ := (HE.out.below hb).at_ hil
        obtain rfl := Option.some.inj he
        have HR := hide (compare_any C3 B cm3 bm cd3 bd y (zs x) w5 (by rw [← HY.out]; exact hs3.il) (HSB.out.below hb).il)
        replace HE := hide (HE.out.below hb)
        replace HA := hide (HA.out.below hb)
        replace HW := hide (HW.out.trans (hb.mono HW.out.size))
        clear hb HQ hcl hcl2 he hs3 HSC HSB
        obtain ⟨cv, hcv⟩ : ∃ cv, cmpI y (zs x) = cv := ⟨_, rfl⟩
        rw [hcv] at HR HNEG
        have hdc : decide ((0 : Int) ≤ cv) = false := decide_eq_false (by have := HNEG.out; omega)
        clear hcv HNEG
        go_wp2_with fail
        refine HR.out.mono ?_
        rintro e w6 ⟨rfl, hww⟩
        subst hww
        clear HR hcl3
        go_wp2_with fail
        go_roundw
        case measure => show en - ((j : Int) + 1).toNat < en - ((j : Int)).toNat; omega
        exact ⟨j + 1, rfl, by omega, HE, HA, HW⟩
    · clear HLT HME
      by_cases hN1 : N = 1
      · have hdN : ((N : Int) == 1) = true := by rw [beq_iff_eq]; omega
        have hdM : decide (N = 1) = true := decide_eq_true (by omega)
        clear hN1
        go_wp2_with fail
        go_ret
        exact ⟨rfl, HW.out⟩
      · have hdN : ((N : Int) == 1) = false := by rw [beq_eq_false_iff_ne]; omega
        have n2 : 2 ≤ N := by omega
        have hdM : decide (N = 1) = false := decide_eq_false (by omega)
        clear hN1
        have HG := hide (generators_any N A k c 12 ys wr HA.out.il HA.out.cap n2 (by omega) (by omega))
        go_wp2_with fail
        refine HG.out.mono ?_
        rintro e w5 ⟨ks, G, gm, gd, rfl, hs, hks, hg, hb⟩
        replace HE := hide (HE.out.below hb)
        replace HW := hide (HW.out.trans (hb.mono HW.out.size))
        have HS := hide (stacked_any HF.out N G gm gd ks w5 hs hks n1 n6 (by omega))
        have HPN := hide (stkd_plan n1 n6 hks)
        clear hb hs hks hg HG HA
        go_wp2_with fail
        refine HS.out.mono ?_
        rintro e w6 ⟨D, dn, dc, rfl, hs, hb⟩
        obtain ⟨p, hp, p1, p2, p3⟩ := HPL.out _ HPN.out
        replace HE := hide (HE.out.below hb)
        replace HW := hide (HW.out.trans (hb.mono HW.out.size))
        have HR := hide (bsearch_any E D en dn ec dc p ((Tl.plan N).map zs) (zs (stkd N ks).1) w6 HE.out.ill hs.il (by omega) hp p1 (fun j h1 h2 h3 => by have := p2 j h1 h2; omega) p3)
        generalize (stkd N ks).2 = q at *
        clear hb hs p1 p2 p3 HS HPN HPL
        go_wp2_with fail
        refine HR.out.mono ?_
        rintro e w7 ⟨rfl, hww⟩
        subst hww
        go_wp2_with fail
        go_ret
        exact ⟨rfl, HW.out⟩
end Go.Proofs.Ythhcjnmlpojjeaa
