/- timbkeep1.stacked, timbkeep1.generators, for a package temperleylieb that answers as it should. -/
import Derived.Test.YthhcjnmlpojjeaaTlX
namespace Go.Proofs.Ythhcjnmlpojjeaa
set_option linter.unusedVariables false
set_option linter.unusedSimpArgs false
open Go.RowKit

/-- The generators of a list of numbers. -/
def hooks (n : Nat) (ks : List Nat) : List (List Nat) := ks.map (Tl.hook n)
/-- Their product. -/
def stkd (n : Nat) (ks : List Nat) : List Nat × Nat := Tl.act n (Tl.straight n, 0) (hooks n ks)
theorem stkd_snoc (n : Nat) (ks : List Nat) (k : Nat) : stkd n (ks ++ [k]) = ((Tl.mul n (stkd n ks).1 (Tl.hook n k)).1, (stkd n ks).2 + (Tl.mul n (stkd n ks).1 (Tl.hook n k)).2) := by
  unfold stkd hooks
  rw [List.map_append]
  exact Tl.act_snoc _ _ _ _
theorem hooks_wd {n : Nat} {ks : List Nat} (h : ∀ k ∈ ks, 1 ≤ k ∧ k < n) : Tl.Wd n (hooks n ks) := fun g hg => by
  obtain ⟨k, hk, rfl⟩ := List.mem_map.1 hg
  exact hook_gen (h k hk).1 (h k hk).2
theorem stkd_isW {n : Nat} {ks : List Nat} (h : ∀ k ∈ ks, 1 ≤ k ∧ k < n) : Tl.IsW n (stkd n ks).1 := ⟨_, _, straight_gen n, hooks_wd h, rfl⟩
theorem stkd_plan {n : Nat} (h0 : 1 ≤ n) (h6 : n ≤ 6) {ks : List Nat} (h : ∀ k ∈ ks, 1 ≤ k ∧ k < n) : (stkd n ks).1 ∈ Tl.plan n := (stkd_isW h).plan h0 h6
theorem stkd_le (n : Nat) : ∀ (j : Nat) (ks : List Nat), ks.length = j → (stkd n ks).2 ≤ 3 * n * j
  | 0, ks, h => by rw [List.eq_nil_of_length_eq_zero h]; exact Nat.zero_le _
  | j + 1, ks, h => by
    have hne : ks ≠ [] := fun e => by rw [e] at h; simp at h
    rw [← List.dropLast_concat_getLast hne, stkd_snoc]
    have h1 := stkd_le n j ks.dropLast (by rw [List.length_dropLast]; omega)
    have h2 := mul_le n (stkd n ks.dropLast).1 (Tl.hook n (ks.getLast hne))
    rw [Nat.mul_add, Nat.mul_one]
    show (stkd n ks.dropLast).2 + _ ≤ _
    omega

set_option maxRecDepth 100000 in
set_option maxHeartbeats 4000000 in
theorem stacked_any (F : TlC) (n : Nat) (A : Option Addr) (m c : Nat) (ks : List Nat) (w : World) (ha : SL w A m c (zs ks)) (hks : ∀ k ∈ ks, 1 ≤ k ∧ k < n) (h0 : 1 ≤ n) (h6 : n ≤ 6) (hm : m ≤ 100) :
    Calls Try.prog 26 #[.int .i64 n, .slice A m c] w fun e w' => ∃ D dn dc, e = .returned (.tuple #[.slice D dn dc, .int .i64 ((stkd n ks).2 : Nat), .bool true]) ∧ SL w' D dn dc (zs (stkd n ks).1) ∧ Below w.heap.size w w' := by
  have hl : ks.length = m := by have := ha.il.len; rwa [zs_length] at this
  have HF := hide F
  have HA := hide ha
  have HK := hide hks
  have HL := hide hl
  obtain ⟨kf, hkf⟩ : ∃ k, (stkd n ks).2 = k := ⟨_, rfl⟩
  have HKF := hide hkf
  rw [hkf]
  have wn : (Lit.int .i64 (n : Int)).wf = true := wf_nat (by omega)
  have hI := F.ident (n : Int) w wn
  rw [tlE_ok h0 h6, idL_ok h0 h6] at hI
  have HI := hide hI
  have HWN := hide wn
  have hz0 : stkd n (ks.take 0) = (Tl.straight n, 0) := by simp [stkd, hooks, Tl.act]
  have HZ0 := hide hz0
  clear F ha hks hl hkf wn hI hz0
  go_enter Try.func26, Try.ntmps26
  go_wp2_with fail
  refine HI.out.mono ?_
  rintro e w1 ⟨D, dn, dc, rfl, hs, hb⟩
  have HS := hide hs
  have HB := hide hb
  clear hs hb HI
  go_wp2_with fail
  go_loopw [7, 9, 10, 27] (fun dv mv ov iv wr => ∃ (j k dn dc : Nat) (D : Option Addr), dv = .slice D dn dc ∧ mv = .int .i64 k ∧ ov = .bool true ∧ iv = .int .i64 j ∧ j ≤ m ∧ Hid (k = (stkd n (ks.take j)).2 ∧ SL wr D dn dc (zs (stkd n (ks.take j)).1)) ∧ Hid (Below w.heap.size w wr)) (fun _ _ _ iv _ => m - (intOf iv).toNat)
  case atStart => exact ⟨0, 0, dn, dc, D, rfl, rfl, rfl, rfl, Nat.zero_le _, hide (by rw [HZ0.out]; exact ⟨rfl, HS.out⟩), HB⟩
  case round =>
    clear HS HB HZ0
    obtain ⟨j, k, dn, dc, D, rfl, rfl, rfl, rfl, hj, HS, HB⟩ := hrel
    by_cases hlt : j < m
    · have hjl : j < ks.length := by rw [HL.out]; exact hlt
      obtain ⟨ad, rfl, hcl⟩ := (HA.out.below HB.out).il.at_ hlt
      rw [zs_getD] at hcl
      obtain ⟨g1, g2⟩ := HK.out (ks.getD j 0) (by rw [show ks.getD j 0 = ks[j] by simp [List.getD, hjl]]; exact List.getElem_mem _)
      have hT : ks.take (j + 1) = ks.take j ++ [ks.getD j 0] := by rw [List.take_succ_eq_append_getElem hjl]; simp [List.getD, hjl]
      have hSN := stkd_snoc n (ks.take j) (ks.getD j 0)
      rw [← hT] at hSN
      have hpl := stkd_plan h0 h6 (ks := ks.take j) (fun x hx => HK.out x (List.mem_of_mem_take hx))
      have hle := stkd_le n j (ks.take j) (by rw [List.length_take]; omega)
      have hle2 := mul_le n (stkd n (ks.take j)).1 (Tl.hook n (ks.getD j 0))
      obtain ⟨hk, hs⟩ := HS.out
      rw [← hk] at hle
      have hk18 : k ≤ 1800 := Nat.le_trans hle (Nat.le_trans (Nat.mul_le_mul (show 3 * n ≤ 18 by omega) (show j ≤ 100 by omega)) (by omega))
      obtain ⟨q, hq⟩ : ∃ q, ks.getD j 0 = q := ⟨_, rfl⟩
      rw [hq] at hcl g1 g2 hSN hle2
      obtain ⟨x, hx⟩ : ∃ x, (stkd n (ks.take j)).1 = x := ⟨_, rfl⟩
      rw [hx] at hSN hpl hle2 hs
      rw [← hk] at hSN
      have hhp := (Tl.gens_plan h0 h6 (hook_gen g1 g2)).1
      have hG := fun w => HF.out.gener (n : Int) (q : Int) w HWN.out (wf_nat (by omega))
      rw [geE_ok g1 g2 h6, geL_ok g1 g2 h6] at hG
      have HG := hide hG
      have HP := hide (fun (w : World) (B : Option Addr) (bn bc : Nat) (h1 : SL w D dn dc (zs x)) (h2 : SL w B bn bc (zs (Tl.hook n q))) => by
        have hP := HF.out.product (n : Int) D dn dc _ B bn bc _ w h1 h2 HWN.out
        obtain ⟨e2, e3⟩ := prL_ok h0 h6 hpl hhp
        rw [prE_ok h0 h6 hpl hhp, e2, e3] at hP
        exact hP)
      obtain ⟨l2, hl2⟩ : ∃ l, (Tl.mul n x (Tl.hook n q)).2 = l := ⟨_, rfl⟩
      rw [hl2] at HP hSN hle2
      have hwk : IntKind.i64.wrap ((k : Int) + (l2 : Int)) = (k : Int) + (l2 : Int) := by rw [IntKind.wrap_i64]; omega
      have HSN := hide hSN
      have HSD := hide hs
      clear hT hSN hpl hle hle2 hk hs hq hx hhp hG hl2 HS hjl g1 g2
      go_wp2_with fail
      refine (HG.out wr).mono ?_
      rintro e w2 ⟨B, bn, bc, rfl, hs, hb⟩
      have HP2 := hide (HP.out w2 B bn bc (HSD.out.below hb) hs)
      replace HB := hide (HB.out.trans (hb.mono HB.out.size))
      clear hs hb HP HG HSD
      go_wp2_with fail
      refine HP2.out.mono ?_
      rintro e w3 ⟨C, cn, cc, rfl, hs, hb⟩
      have HS3 : Hid (k + l2 = (stkd n (ks.take (j + 1))).2 ∧ SL w3 C cn cc (zs (stkd n (ks.take (j + 1))).1)) := hide (by rw [HSN.out]; exact ⟨rfl, hs⟩)
      replace HB := hide (HB.out.trans (hb.mono HB.out.size))
      clear hs hb HP2 HSN hcl
      go_wp2_with fail
      go_roundw
      case rel => exact ⟨j + 1, k + l2, cn, cc, C, rfl, by go_num, rfl, by go_num, by omega, HS3, HB⟩
      case measure => simp [intOf]; omega
    · have hjm : j = m := by omega
      have HE : Hid (k = kf ∧ SL wr D dn dc (zs (stkd n ks).1)) := hide (by
        have h := HS.out
        rw [hjm, List.take_of_length_le (by rw [HL.out]; exact Nat.le_refl _), HKF.out] at h
        exact h)
      obtain ⟨hk, hs⟩ := HE.out
      subst hk
      have HS2 := hide hs
      clear HS hjm hs HE
      go_wp2_with fail
      go_ret3
      exact ⟨_, _, _, rfl, HS2.out, HB.out⟩
end Go.Proofs.Ythhcjnmlpojjeaa
