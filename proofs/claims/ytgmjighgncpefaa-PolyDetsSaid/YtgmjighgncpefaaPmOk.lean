/- Package polymatrix: Det. -/
import Derived.Test.YtgmjighgncpefaaPm1
import Derived.Test.YtgmjighgncpefaaPm3
import Derived.Test.YtgmjighgncpefaaPm4
import Derived.Test.YtgmjighgncpefaaPoM
namespace Go.Proofs.Ytgmjighgncpefaa
set_option linter.unusedVariables false
set_option linter.unusedSimpArgs false
open Go.RowKit

/-- The columns 0 to k - 1. -/
def colL (k : Nat) : List Int := (List.range k).map fun i : Nat => (i : Int)
theorem colL_length (k : Nat) : (colL k).length = k := by simp [colL]
theorem colL_succ (k : Nat) : colL (k + 1) = colL k ++ [(k : Int)] := by simp [colL, List.range_succ]
theorem colL_getD {k j : Nat} (h : j < k) : (colL k).getD j 0 = (j : Int) := by simp [colL, List.getD, h]
theorem colL_mem {k : Nat} {x : Int} (h : x ∈ colL k) : 0 ≤ x ∧ x < k := by
  unfold colL at h
  obtain ⟨i, hi, rfl⟩ := List.mem_map.1 h
  have := List.mem_range.1 hi
  omega
theorem pmM_colL (pss : List (List Po)) (n : Nat) : detR n (pmM pss (colL n)) = detR n (mP pss) := detR_congr fun i _ j hj => by
  unfold pmM mP
  rw [colL_getD hj, Int.toNat_natCast]
theorem fctP_le {n : Nat} (h : n ≤ 4) : LP.fctP n * 20000 ^ n ≤ 9223372036854775807 := by
  match n, h with
  | 0, _ => decide +kernel
  | 1, _ => decide +kernel
  | 2, _ => decide +kernel
  | 3, _ => decide +kernel
  | 4, _ => decide +kernel
theorem det_bound {pss : List (List Po)} (h : sqE pss = 0) (k : Int) : (LP.co (detR pss.length (mP pss)) k).natAbs ≤ 9223372036854775807 := by
  obtain ⟨h4, _⟩ := sqE_zero h
  refine Nat.le_trans ((LP.N1.detR (E := 40) (V := 20000) fun i hi j hj => ?_).co k) (fctP_le h4)
  obtain ⟨p, h1, h2⟩ := mP_entry h hi hj
  have := (poly_n1 h2).1
  unfold mP
  rw [h1]
  exact this

set_option maxRecDepth 100000 in
set_option maxHeartbeats 4000000 in
theorem pmdet_any (A : Option Addr) (n c : Nat) (pss : List (List Po)) (w : World) (ha : SPP w A n c pss) :
    Calls Try.prog 5 #[.slice A n c] w (GivesPE w (detPR pss)) := by
  have HLEN := hide ha.len
  have hns := ha.small
  have HW : Hid (Below w.heap.size w (w.alloc (.cells #[.int .i64 0, .slice none 0 0] 25))) := hide ((Below.refl _ _).alloc (Nat.le_refl _) _)
  have HBK : Hid (Blk (w.alloc (.cells #[.int .i64 0, .slice none 0 0] 25)) w.heap.size 25 #[.int .i64 0, .slice none 0 0]) := hide (Blk.new _ _ _)
  have HA := hide (ha.below HW.out)
  obtain ⟨T, hT⟩ : ∃ T, detPR pss = T := ⟨_, rfl⟩
  have HT := hide hT
  rw [hT]
  clear hT ha
  obtain ⟨i0, hi0, hz0, hz1, hz2⟩ := info_parts int_info
  go_enter Try.func5, Try.ntmps5
  go_upto_region 1 with fail
  obtain ⟨w0, hw0⟩ : ∃ x, w.alloc (.cells #[.int .i64 0, .slice none 0 0] 25) = x := ⟨_, rfl⟩
  rw [hw0] at HW HBK HA ⊢
  clear hw0
  go_wp2_with fail
  refine (pmcheck_any A n c pss _ HA.out).mono ?_
  rintro e w1 ⟨rfl, hb⟩
  replace HA := hide (HA.out.below hb)
  replace HW := hide (HW.out.trans (hb.mono HW.out.size))
  replace HBK := hide (HBK.out.below hb HBK.out.lt)
  clear hb
  obtain ⟨p, hp⟩ : ∃ p, sqE pss = p := ⟨_, rfl⟩
  rw [hp]
  have HP := hide hp
  clear hp
  by_cases hp0 : p = 0
  case neg =>
    have HTE : Hid (T = (p, 0, [])) := hide (by rw [← HT.out]; unfold detPR; rw [if_neg (by rw [HP.out]; exact hp0), HP.out])
    have hne : (p != 0) = true := by simpa using hp0
    have hf0 := HBK.out.frozen 0
    have hf1 := HBK.out.frozen 1
    have hr0 := HBK.out.cell 0
    have hr1 := HBK.out.cell 1
    simp at hr0 hr1
    have hlt := HBK.out.lt
    clear hp0
    go_wp2_with fail
    refine bodyPost_ret (results_pe rfl _ rfl rfl ((HBK.out.set_ 0 (.int .i64 0)).set_ 1 (.slice none 0 0))) rfl ?_
    rw [HTE.out]
    refine ⟨none, 0, 0, rfl, SL.nil_ _, fun h => absurd h (by omega), ?_⟩
    exact (HW.out.setCell (p := ⟨w.heap.size, 0, none⟩) (Nat.le_refl _) _).setCell (p := ⟨w.heap.size, 1, none⟩) (Nat.le_refl _) _
  subst hp0
  obtain ⟨h4, hrow⟩ := sqE_zero HP.out
  rw [HLEN.out] at h4
  have HROW : Hid (∀ r ∈ pss, r.length = n ∧ ∀ p ∈ r, polyE p = 0) := hide (fun r hr => ⟨by rw [(hrow r hr).1, HLEN.out], (hrow r hr).2⟩)
  have HTE : Hid (T = LP.fit (detR n (mP pss))) := hide (by rw [← HT.out]; unfold detPR; rw [if_pos HP.out, HLEN.out])
  have HDB : Hid (∀ k, (LP.co (detR n (mP pss)) k).natAbs ≤ 9223372036854775807) := hide (fun k => by have := det_bound HP.out k; rwa [HLEN.out] at this)
  have HMM := hide (pmM_colL pss n)
  have h4' := h4
  clear hrow HP HT
  go_upto_region 5 with fail
  go_wp2_with fail
  go_loopw [5, 16] (fun cv iv wx => ∃ (k : Nat) (C : Option Addr) (cc : Nat), k ≤ n ∧ iv = .int .i64 k ∧ cv = .slice C k cc ∧ Hid (OwnI wx w1.heap.size C k cc (colL k)) ∧ Hid (Below w1.heap.size w1 wx)) (fun _ iv _ => n - (intOf iv).toNat)
  case atStart => exact ⟨0, none, 0, Nat.zero_le _, rfl, rfl, hide (OwnI.nil_ _ _), hide (Below.refl _ _)⟩
  case round =>
    obtain ⟨k, C, cc, hk, rfl, rfl, HO, HW1⟩ := hrel
    by_cases hkn : k < n
    · have HS := hide (colL_succ k)
      have hszw := HW1.out.size
      have hok := HO.out
      go_wp2_with (first | (at_builtin; refine wpList_append_int _ rfl (.tmp 19) (.tmp 21) 23 rfl w1.heap.size i0 Try.underlying23 hi0 hz0 hz1 hz2 C k cc (colL k) rfl (hok.alloc _) (some ⟨wr.heap.size, 0, none⟩) 1 1 [(k : Int)] rfl (IL.lit wr [(k : Int)] (by simp) rfl rfl) (by omega) (Nat.le_trans hszw (by simp)) ?_; intro A9 c9 w9 happ))
      have ho := happ.own
      rw [← HS.out] at ho
      have HO9 := hide ho
      have hlies : ∀ g, (Value.slice C k cc).ownBlock = some g → w1.heap.size ≤ g := fun g hg => (hok.lt g hg).1
      have HW9 : Hid (Below w1.heap.size w1 w9) := hide ((HW1.out.alloc hszw _).grown happ.grown (Nat.le_trans hszw (by simp)) (fun g hg => hlies g (by rw [ownBlock_len C k (k + 1) cc cc]; exact hg)))
      clear happ ho hlies hok HO HW1
      go_wp2_with fail
      go_roundw
      case rel => exact ⟨k + 1, A9, c9, by omega, by go_num, rfl, HO9, HW9⟩
      case measure => simp [intOf]; omega
    · have hke : k = n := by omega
      subst hke
      replace HA := hide (HA.out.below HW1.out)
      replace HW := hide (HW.out.trans (HW1.out.mono HW.out.size))
      replace HBK := hide (HBK.out.below HW1.out HBK.out.lt)
      have HC := hide HO.out.sl
      clear HO
      go_wp2_with fail
      refine (expandP_any k k A c pss C cc (colL k) _ HA.out HC.out h4' HROW.out (fun x hx => colL_mem hx)).mono ?_
      rintro e w2 ⟨R, d, ys, rfl, hown, hlp, hb⟩
      rw [HMM.out] at hlp
      have hyl : ys.length = 59 * k + 1 := by have := hown.len; simpa using this
      have hym : ys.map wr64 = ys := map_wr64 fun y hy => by
        obtain ⟨j, hj, rfl⟩ := List.mem_iff_getElem.1 hy
        have h1 := HDB.out (-20 * (k : Int) + j)
        rw [← hlp, LP.co_of_at hj] at h1
        rwa [show ys.getD j 0 = ys[j] by simp [List.getD, List.getElem?_eq_getElem hj]] at h1
      rw [hym] at hown
      have HR := hide hown.sl
      have HLP := hide hlp
      replace HW := hide (HW.out.trans (hb.mono HW.out.size))
      replace HBK := hide (HBK.out.below hb HBK.out.lt)
      clear hown hlp hb hyl hym HC HA HMM HDB HROW
      go_wp2_with fail
      refine (pmPoly_any R (59 * k + 1) d ys k _ HR.out rfl h4').mono ?_
      rintro e w3 ⟨Q, qn, qc, rfl, hsq, hnw, hb⟩
      rw [HLP.out] at hsq ⊢
      obtain ⟨q, hq⟩ : ∃ q, LP.canon (detR k (mP pss)) = q := ⟨_, rfl⟩
      have HF : Hid (T = if LP.pfl q.1 q.2 = 0 then (0, q.1, q.2) else (2, 0, [])) := hide (by rw [HTE.out]; unfold LP.fit; rw [hq])
      rw [hq] at hsq ⊢
      obtain ⟨lo, xs⟩ := q
      dsimp only at hsq HF ⊢
      clear hq HLP HTE HR
      have hfar : 0 < qn → ∀ a, Q = some a → a.block ≠ w.heap.size ∧ w.heap.size ≤ a.block := fun h a e => by
        have h1 := hnw h a e
        have h2 := HBK.out.lt
        omega
      replace HW := hide (HW.out.trans (hb.mono HW.out.size))
      replace HBK := hide (HBK.out.below hb HBK.out.lt)
      have HSQ := hide hsq
      have HFAR := hide hfar
      clear hb hnw hsq hfar
      go_upto_region 11 with fail
      have hbk := HBK.out.lt
      have hb7 : Below w3.heap.size w3 (w3.alloc (.cells #[.int .i64 lo, .slice Q qn qc] 25)) := (Below.refl _ _).alloc (Nat.le_refl _) _
      have B7 := hide (Blk.new w3 25 #[.int .i64 lo, .slice Q qn qc])
      replace HSQ := hide (HSQ.out.below hb7)
      replace HW := hide (HW.out.trans (hb7.mono HW.out.size))
      replace HBK := hide (HBK.out.below hb7 hbk)
      have hne7 : w3.heap.size ≠ w.heap.size := by omega
      obtain ⟨b7, hb7e⟩ : ∃ q, w3.heap.size = q := ⟨_, rfl⟩
      obtain ⟨w4, hw4⟩ : ∃ q, w3.alloc (.cells #[.int .i64 lo, .slice Q qn qc] 25) = q := ⟨_, rfl⟩
      rw [hw4] at B7 HSQ HW HBK ⊢
      rw [hb7e] at B7 hne7 hbk ⊢
      clear hb7 hw4 hb7e
      have hz0 := B7.out.cell 0
      have hz1 := B7.out.cell 1
      simp at hz0 hz1
      go_wp2_with fail
      refine (lcheck_any lo Q qn qc xs _ HSQ.out).mono ?_
      rintro e w5 ⟨rfl, hb⟩
      replace HSQ := hide (HSQ.out.below hb)
      replace HW := hide (HW.out.trans (hb.mono HW.out.size))
      have hl7 := B7.out.lt
      replace HBK := hide (HBK.out.below hb (by omega))
      replace B7 := hide (B7.out.below hb hl7)
      clear hb hz0 hz1 hl7
      obtain ⟨f, hf⟩ : ∃ f, LP.pfl lo xs = f := ⟨_, rfl⟩
      rw [hf] at HF ⊢
      clear hf
      have hz0 := B7.out.cell 0
      have hz1 := B7.out.cell 1
      simp at hz0 hz1
      have hf0 := HBK.out.frozen 0
      have hf1 := HBK.out.frozen 1
      have hc0 := HBK.out.cell 0
      have hc1 := HBK.out.cell 1
      simp at hc0 hc1
      have hlt := HBK.out.lt
      by_cases hf : f = 0
      · subst hf
        rw [if_pos rfl] at HF
        have hfar : 0 < qn → ∀ a, Q = some a → a.block ≠ w.heap.size := fun h a e => (HFAR.out h a e).1
        have HFA := hide hfar
        clear hfar
        go_wp2_with fail
        refine bodyPost_ret (results_pe rfl _ rfl rfl ((HBK.out.set_ 0 (.int .i64 lo)).set_ 1 (.slice Q qn qc))) rfl ?_
        rw [HF.out]
        exact ⟨Q, qn, qc, rfl, (HSQ.out.setCell HFA.out 0 _).setCell HFA.out 1 _, fun h a e => (HFAR.out h a e).2, (HW.out.setCell (p := ⟨w.heap.size, 0, none⟩) (Nat.le_refl _) _).setCell (p := ⟨w.heap.size, 1, none⟩) (Nat.le_refl _) _⟩
      · have hne : (f != 0) = true := by simpa using hf
        rw [if_neg hf] at HF
        clear hf
        go_wp2_with fail
        refine bodyPost_ret (results_pe rfl _ rfl rfl ((HBK.out.set_ 0 (.int .i64 0)).set_ 1 (.slice none 0 0))) rfl ?_
        rw [HF.out]
        exact ⟨none, 0, 0, rfl, SL.nil_ _, fun h => absurd h (by omega), (HW.out.setCell (p := ⟨w.heap.size, 0, none⟩) (Nat.le_refl _) _).setCell (p := ⟨w.heap.size, 1, none⟩) (Nat.le_refl _) _⟩

theorem pmC : PmC where
  check := pmcheck_any
  det := pmdet_any
end Go.Proofs.Ytgmjighgncpefaa
