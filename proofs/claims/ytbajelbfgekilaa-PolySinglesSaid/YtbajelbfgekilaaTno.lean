/- timbref1.Normal. -/
import Derived.Test.YtbajelbfgekilaaTp2
import Derived.Test.YtbajelbfgekilaaSetRow
import Derived.Test.YtbajelbfgekilaaTpf
namespace Go.Proofs.Ytbajelbfgekilaa
set_option linter.unusedVariables false
set_option linter.unusedSimpArgs false
open Go.RowKit Go.Maps

/-- The first k numbers with the other sign. -/
def negK (cs : List Int) (k : Nat) : List Int := (List.range cs.length).map fun j => if j < k then -cs.getD j 0 else cs.getD j 0
theorem negK_length (cs : List Int) (k : Nat) : (negK cs k).length = cs.length := by simp [negK]
theorem negK_zero (cs : List Int) : negK cs 0 = cs := by
  refine List.ext_getElem (by simp [negK]) fun i h1 h2 => ?_
  simp [negK, List.getD, List.getElem?_eq_getElem h2]
theorem negK_set {cs : List Int} {k : Nat} (hk : k < cs.length) : (negK cs k).set k (-cs.getD k 0) = negK cs (k + 1) := by
  refine List.ext_getElem (by simp [negK]) fun i h1 h2 => ?_
  rw [List.getElem_set]
  simp only [negK, List.getElem_map, List.getElem_range]
  by_cases h : k = i
  · subst h; simp
  · rw [if_neg h]
    by_cases h3 : i < k
    · rw [if_pos h3, if_pos (by omega)]
    · rw [if_neg h3, if_neg (by omega)]
theorem negK_getD {cs : List Int} {k j : Nat} (hj : j < cs.length) : (negK cs k).getD j 0 = if j < k then -cs.getD j 0 else cs.getD j 0 := by simp [negK, List.getD, hj]
theorem negK_norm {cs : List Int} (h : LP.sgL cs = -1) : negK cs cs.length = LP.normC cs := by
  unfold LP.normC
  rw [h]
  refine List.ext_getElem (by simp [negK]) fun i h1 h2 => ?_
  simp only [negK, List.getElem_map, List.getElem_range]
  have hi : i < cs.length := by simpa [negK] using h1
  rw [if_pos hi]
  simp only [List.getD, List.getElem?_eq_getElem hi]
  show -cs[i] = -1 * cs[i]
  omega
theorem normC_one {cs : List Int} (h : LP.sgL cs = 1) : LP.normC cs = cs := by
  unfold LP.normC
  rw [h]
  simp

set_option maxRecDepth 100000 in
set_option maxHeartbeats 4000000 in
theorem tnormal_any (b : Nat) (T : List Tm) (E : Nat) (hE : E ≤ 400000) (w : World) (ha : MapI w b T) (hk : ∀ p ∈ T, p.1.natAbs ≤ E) (hv : ∀ c ∈ (LP.canon (LP.mk T)).2, c.natAbs ≤ 4000000000000000000) :
    Calls Try.prog 19 #[.map (some b)] w (GivesP w 0 (LP.normC (LP.canon (LP.mk T)).2)) := by
  have HW0 : Hid (Below w.heap.size w (w.alloc (.cells #[.int .i64 0, .slice none 0 0] 24))) := hide ((Below.refl _ _).alloc (Nat.le_refl _) _)
  have B20 := hide (Blk.new w 24 #[.int .i64 0, .slice none 0 0])
  have HP := hide (tpoly_o b T E hE _ (ha.below HW0.out) hk)
  have HV := hide hv
  clear ha hk hv
  generalize LP.canon (LP.mk T) = P at *
  obtain ⟨lo, cs⟩ := P
  simp only at HV HP ⊢
  go_enter Try.func19, Try.ntmps19
  go_upto_region 1 with fail
  obtain ⟨b2, hb2⟩ : ∃ q, w.heap.size = q := ⟨_, rfl⟩
  have HB2 := hide hb2
  obtain ⟨w0, hw0⟩ : ∃ x, w.alloc (.cells #[.int .i64 0, .slice none 0 0] 24) = x := ⟨_, rfl⟩
  rw [hw0] at HW0 B20 HP ⊢
  rw [hb2] at HW0 B20 ⊢
  clear hw0 hb2
  go_wp2_with fail
  refine HP.out.mono ?_
  rintro e w1 ⟨A, n, c, rfl, ho, hb⟩
  have hl2 := B20.out.lt
  have hsz1 := hb.size
  have hin : ∀ k, (Value.slice A n c).ownBlock = some k → b2 < k ∧ k < w1.heap.size := fun k hk => by have := ho.lt k hk; omega
  have HO := hide (ho.mono (b' := b2) (by omega))
  have HIN := hide hin
  have HW := hide (HW0.out.trans (hb.mono (by omega)))
  have B2 := hide (B20.out.below hb B20.out.lt)
  have hcl := ho.len
  clear ho hin hb HP B20 HW0
  have hb3 : Below w1.heap.size w1 (w1.alloc (.cells #[.int .i64 0, .slice A n c] 24)) := (Below.refl _ _).alloc (Nat.le_refl _) _
  have hB3 := Blk.new w1 24 #[.int .i64 0, .slice A n c]
  go_upto_region 3 with fail
  obtain ⟨b3, hbe⟩ : ∃ q, w1.heap.size = q := ⟨_, rfl⟩
  obtain ⟨w2, hw2⟩ : ∃ x, w1.alloc (.cells #[.int .i64 0, .slice A n c] 24) = x := ⟨_, rfl⟩
  rw [hw2] at hb3 hB3 ⊢
  replace HO := hide (HO.out.below hb3)
  replace HW := hide (HW.out.trans (hb3.mono (by omega)))
  replace B2 := hide (B2.out.below hb3 (by omega))
  rw [hbe] at hB3 HIN ⊢
  have hl23 : b2 < b3 := by omega
  have HB3 := hide hB3
  clear hw2 hb3 hbe
  have hq1 := hB3.cell 1
  simp at hq1
  have hsn := HO.out.small
  have HSG : Hid (LP.sgL cs = if cs.getD (n - 1) 0 < 0 then -1 else 1) := hide (by unfold LP.sgL; rw [hcl])
  have HEND : Hid (∀ (wz : World) (ds : List Int), OwnI wz b2 A n c ds → Blk wz b2 24 #[.int .i64 0, .slice none 0 0] → Below b2 w wz → ds = LP.normC cs → GivesP w 0 (LP.normC cs) (.returned (PV 0 A n c)) ((wz.setCell ⟨b2, 0, none⟩ (.int .i64 0)).setCell ⟨b2, 1, none⟩ (.slice A n c))) := hide (fun wz ds h1 h2 h3 h4 => by
    have hf : 0 < n → ∀ ad, A = some ad → ad.block ≠ b2 := fun h ad e => by have := (HIN.out ad.block (by rw [e]; rfl)).1; omega
    refine ⟨A, n, c, rfl, by rw [← h4]; exact (h1.sl.setCell hf 0 _).setCell hf 1 _, fun h ad e => by have := (HIN.out ad.block (by rw [e]; rfl)).1; rw [HB2.out]; omega, ?_⟩
    rw [HB2.out]
    exact (h3.setCell (p := ⟨b2, 0, none⟩) (Nat.le_refl _) _).setCell (p := ⟨b2, 1, none⟩) (Nat.le_refl _) _)
  clear hB3
  by_cases hn0 : n = 0
  · have hs1 : LP.sgL cs = 1 := by rw [HSG.out, List.eq_nil_of_length_eq_zero (show cs.length = 0 by omega)]; rfl
    have HN := hide (normC_one hs1)
    have hr0 := B2.out.cell 0
    have hr1 := B2.out.cell 1
    have hq0 := HB3.out.cell 0
    simp at hr0 hr1 hq0
    have hf0 := B2.out.frozen 0
    have hf1 := B2.out.frozen 1
    have hl2b := B2.out.lt
    clear hs1 HSG
    subst hn0
    go_wp2_with fail
    refine bodyPost_ret (results_poly rfl _ rfl ((B2.out.set_ 0 (.int .i64 0)).set_ 1 (.slice A 0 c))) rfl ?_
    exact HEND.out w2 cs HO.out B2.out HW.out HN.out.symm
  obtain ⟨g, hA, hg1, hg2⟩ := HO.out.form (by omega)
  subst hA
  have hgl : b2 < g ∧ g < b3 := HIN.out g rfl
  have hcell := HO.out.cell (j := n - 1) (by omega)
  obtain ⟨y, hy⟩ : ∃ y, cs.getD (n - 1) 0 = y := ⟨_, rfl⟩
  rw [hy] at hcell HSG
  have hgd : decide ((0 : Int) < (n : Int)) = true := decide_eq_true (by omega)
  have hp2 : IntKind.i64.wrap ((n : Int) - 1) = ((n - 1 : Nat) : Int) := by rw [IntKind.wrap_i64]; omega
  obtain ⟨k1, hk1⟩ : ∃ k, n - 1 = k := ⟨_, rfl⟩
  rw [hk1] at hcell hp2
  have hkn : k1 < n := by omega
  have hk2 : ((n : Int) - 1).toNat = k1 := by omega
  clear hy hk1 hn0
  by_cases hy0 : y < 0
  · rw [if_pos hy0] at HSG
    have HN := hide (negK_norm HSG.out)
    clear HSG
    go_wp2_with fail
    clear hcell hp2 hk2 hq1
    go_loopw [26] (fun iv wr => ∃ k : Nat, k ≤ n ∧ iv = .int .i64 k ∧ OwnI wr b2 (some ⟨g, 0, none⟩) n c (negK cs k) ∧ Blk wr b3 24 #[.int .i64 0, .slice (some ⟨g, 0, none⟩) n c] ∧ Blk wr b2 24 #[.int .i64 0, .slice none 0 0] ∧ Below b2 w wr) (fun iv _ => n - (intOf iv).toNat)
    case atStart => exact ⟨0, Nat.zero_le _, rfl, by rw [negK_zero]; exact HO.out, HB3.out, B2.out, HW.out⟩
    case round =>
      clear HO HB3 B2 HW
      obtain ⟨k, hk, rfl, ho, h3, h2, hw⟩ := hrel
      have HOK := hide ho
      have HB3 := hide h3
      have B2 := hide h2
      have HW := hide hw
      clear ho h3 h2 hw
      by_cases hlt : k < n
      · obtain ⟨x, hx⟩ : ∃ x, cs.getD k 0 = x := ⟨_, rfl⟩
        have HXK : Hid ((negK cs k).getD k 0 = x) := hide (by rw [negK_getD (by omega), if_neg (by omega), hx])
        have hxv : x.natAbs ≤ 4000000000000000000 := by rw [← hx]; exact HV.out _ (LP.getD_mem' (by omega))
        have hwn : IntKind.i64.wrap (-x) = -x := by rw [IntKind.wrap_i64]; omega
        have HST : Hid ((negK cs k).set k (-x) = negK cs (k + 1)) := hide (by rw [← hx]; exact negK_set (by omega))
        have hcr := HOK.out.drew.cell hlt
        have hfr := HOK.out.drew.frozen k
        clear hx hxv
        go_upto_region 8 with fail
        refine wp_region_T (S := fun w' => Below wr.heap.size wr w') 10 (by kernel_rfl) (Below.refl _ _).drew (fun hS => ?_)
        refine wpT_tk 0 (v := .pointer (some ⟨b3, 1, none⟩)) rfl (by kernel_rfl) (by kernel_rfl) (by kernel_rfl) (by kernel_rfl) (yi rfl fun w' hw' => gives_fld rfl Try.underlying24 rfl rfl rfl (fun w => rfl)) hS ?_
        go_frame
        refine wpT_tk 1 (v := .slice (some ⟨g, 0, none⟩) n c) rfl (by kernel_rfl) (by kernel_rfl) (by kernel_rfl) (by kernel_rfl) (yi rfl fun w' hw' => gives_load1 rfl (by kernel_rfl) rfl (by have h := (HB3.out.below hw' HB3.out.lt).cell 1; simpa using h)) hS ?_
        go_frame
        refine wpT_tk 2 (v := .int .i64 k) rfl (by kernel_rfl) (by kernel_rfl) (by kernel_rfl) (by kernel_rfl) (yi rfl fun w' hw' => gives_move (.inl rfl) rfl) hS ?_
        go_frame
        refine wpT_tk 3 (v := .pointer (some ⟨b3, 1, none⟩)) rfl (by kernel_rfl) (by kernel_rfl) (by kernel_rfl) (by kernel_rfl) (yi rfl fun w' hw' => gives_fld rfl Try.underlying24 rfl rfl rfl (fun w => rfl)) hS ?_
        go_frame
        refine wpT_tk 4 (v := .slice (some ⟨g, 0, none⟩) n c) rfl (by kernel_rfl) (by kernel_rfl) (by kernel_rfl) (by kernel_rfl) (yi rfl fun w' hw' => gives_load1 rfl (by kernel_rfl) rfl (by have h := (HB3.out.below hw' HB3.out.lt).cell 1; simpa using h)) hS ?_
        go_frame
        refine wpT_tk 5 (v := .int .i64 k) rfl (by kernel_rfl) (by kernel_rfl) (by kernel_rfl) (by kernel_rfl) (yi rfl fun w' hw' => gives_move (.inl rfl) rfl) hS ?_
        go_frame
        refine wpT_tk 6 (v := .pointer (some ((⟨g, 0, none⟩ : Addr).add k))) rfl (by kernel_rfl) (by kernel_rfl) (by kernel_rfl) (by kernel_rfl) (yi rfl fun w' hw' => gives_indexA rfl Try.underlying22 (fun w => by kernel_rfl) rfl rfl hlt) hS ?_
        go_frame
        refine wpT_tk 7 (v := .int .i64 x) rfl (by kernel_rfl) (by kernel_rfl) (by kernel_rfl) (by kernel_rfl) (yi rfl fun w' hw' => gives_load1 rfl (by kernel_rfl) rfl (by rw [add_zero_block, (HOK.out.below hw').cell hlt, HXK.out])) hS ?_
        go_frame
        refine wpT_tk 8 (v := .int .i64 (-x)) rfl (by kernel_rfl) (by kernel_rfl) (by kernel_rfl) (by kernel_rfl) (yi rfl fun w' hw' => gives_neg rfl rfl hwn) hS ?_
        go_frame
        refine wpT_tk 9 (v := .pointer (some ((⟨g, 0, none⟩ : Addr).add k))) rfl (by kernel_rfl) (by kernel_rfl) (by kernel_rfl) (by kernel_rfl) (yi rfl fun w' hw' => gives_indexA rfl Try.underlying22 (fun w => by kernel_rfl) rfl rfl hlt) hS ?_
        go_frame
        rw [add_zero_block]
        refine wpT_1 10 rfl (by kernel_rfl) ?_
        refine wp_storeI rfl (by kernel_rfl) (by kernel_rfl) rfl rfl hcr hfr ?_
        refine ⟨fun h => absurd rfl h, ?_⟩
        go_frame
        refine wpT_done (by kernel_rfl) (noPanic_mk ?_) _
        have hN := HOK.out.drew.set_ k (-x)
        rw [HST.out] at hN
        have HN1 := hide hN
        have H3 := hide ((show Blk wr.drew b3 _ _ from HB3.out).far (p := ⟨g, k, none⟩) (show b3 ≠ g by omega) (.int .i64 (-x)))
        have H2 := hide ((show Blk wr.drew b2 _ _ from B2.out).far (p := ⟨g, k, none⟩) (show b2 ≠ g by omega) (.int .i64 (-x)))
        have HWN := hide (HW.out.drew.setCell (p := ⟨g, k, none⟩) (show b2 ≤ g by omega) (.int .i64 (-x)))
        clear hN hS hcr hfr hwn HXK HST HOK HB3 B2 HW
        generalize wr.drew.setCell ⟨g, k, none⟩ (.int .i64 (-x)) = w12 at *
        go_wp2_with fail
        go_roundw
        case rel => exact ⟨k + 1, by omega, by go_num, HN1.out, H3.out, H2.out, HWN.out⟩
        case measure => simp [intOf]; omega
      · have hkn2 : k = n := by omega
        have HE := HOK.out
        rw [hkn2, ← hcl, HN.out, hcl] at HE
        have HOE := hide HE
        have hr0 := B2.out.cell 0
        have hr1 := B2.out.cell 1
        have hq0 := HB3.out.cell 0
        have hq1 := HB3.out.cell 1
        simp at hr0 hr1 hq0 hq1
        have hf0 := B2.out.frozen 0
        have hf1 := B2.out.frozen 1
        have hl2b := B2.out.lt
        clear HE HOK
        go_wp2_with fail
        refine bodyPost_ret (results_poly rfl _ rfl ((B2.out.set_ 0 (.int .i64 0)).set_ 1 (.slice (some ⟨g, 0, none⟩) n c))) rfl ?_
        exact HEND.out wr _ HOE.out B2.out HW.out rfl
  · rw [if_neg hy0] at HSG
    have HN := hide (normC_one HSG.out)
    have hr0 := B2.out.cell 0
    have hr1 := B2.out.cell 1
    have hq0 := HB3.out.cell 0
    simp at hr0 hr1 hq0
    have hf0 := B2.out.frozen 0
    have hf1 := B2.out.frozen 1
    have hl2b := B2.out.lt
    clear HSG
    go_wp2_with fail
    refine bodyPost_ret (results_poly rfl _ rfl ((B2.out.set_ 0 (.int .i64 0)).set_ 1 (.slice (some ⟨g, 0, none⟩) n c))) rfl ?_
    exact HEND.out w2 cs HO.out B2.out HW.out HN.out.symm
end Go.Proofs.Ytbajelbfgekilaa
