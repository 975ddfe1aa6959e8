/- The value of a word: the function inside timbkeep1.GroupWords. -/
import Derived.Test.YtnpdlfnhpghkmaaKWord
namespace Go.Proofs.Ytnpdlfnhpghkmaa
open Go.RowKit Go.Maps
set_option linter.unusedVariables false
set_option linter.unusedSimpArgs false

theorem wv_take {n : Nat} {gl : List (List Nat)} {us : List Int} {i : Nat} (h : i < us.length) : wv n gl (us.take (i + 1)) = comp (wv n gl (us.take i)) (lg gl (us.getD i 0)) := by
  rw [List.take_succ_eq_append_getElem h, wv_snoc]
  simp [List.getD, List.getElem?_eq_getElem h]
theorem lg_pm {n : Nat} {gl : List (List Nat)} (hP : PMs n gl) {x : Int} (h0 : x ≠ 0) (h1 : x ≤ gl.length) (h2 : -(gl.length : Int) ≤ x) : PM n (lg gl x) := by
  unfold lg
  by_cases hx : x < 0
  · rw [if_pos hx]
    exact (hP _ (getD_mem'' (by omega))).inv
  · rw [if_neg hx]
    exact hP _ (getD_mem'' (by omega))
theorem wv_pm {n : Nat} {gl : List (List Nat)} (hP : PMs n gl) : ∀ {us : List Int}, (∀ x ∈ us, x ≠ 0 ∧ x ≤ gl.length ∧ -(gl.length : Int) ≤ x) → ∀ i, i ≤ us.length → PM n (wv n gl (us.take i))
  | us, _, 0, _ => by rw [List.take_zero]; exact PM.range n
  | us, h, i + 1, hi => by
    have hm : us.getD i 0 ∈ us := by
      rw [show us.getD i 0 = us[i] by simp [List.getD, List.getElem?_eq_getElem (show i < us.length by omega)]]
      exact List.getElem_mem _
    obtain ⟨h0, h1, h2⟩ := h _ hm
    rw [wv_take (by omega)]
    exact (wv_pm hP h i (by omega)).comp (lg_pm hP h0 h1 h2)

set_option maxRecDepth 100000 in
set_option maxHeartbeats 2000000 in
theorem value_any (gn gb n q d m c : Nat) (B C : Option Addr) (gl : List (List Nat)) (us : List Int) (w : World) (hbn : Blk w gn 3 #[.int .i64 n]) (hbb : Blk w gb 22 #[.slice B q d]) (hl : ILL w B q (zss gl)) (hP : PMs n gl) (hn : n ≤ 9)
    (hu : IL w C m us) (hus : ∀ x ∈ us, x ≠ 0 ∧ x ≤ q ∧ -(q : Int) ≤ x) (hq6 : q ≤ 1000) :
    Calls Try.prog 31 #[.slice C m c, .pointer (some ⟨gn, 0, none⟩), .pointer (some ⟨gb, 0, none⟩)] w fun e w' => ∃ (A' : Option Addr) (n' c' : Nat), e = .returned (.slice A' n' c') ∧ IL w' A' n' (zs (wv n gl us)) ∧ Below w.heap.size w w' := by
  have hlq : gl.length = q := by have := hl.len; simpa [zss] using this
  have HLQ := hide hlq
  have HL := hide hl
  have HP := hide hP
  have HU := hide hu
  have HUS := hide hus
  have hum : us.length = m := hu.len
  have HUM := hide hum
  have hms := hu.small
  have HBB := hide hbb
  have HPM := hide (wv_pm hP (us := us) (by rw [hlq]; exact hus))
  have hc1 : w.cell? ⟨gn, 0, none⟩ = some (.int .i64 n) := hbn.cell 0
  clear hl hP hu hus hum hlq hbn hbb
  go_enter Try.func31, Try.ntmps31
  go_wp2_with fail
  refine (mperm_any n none 0 0 [] w (IL.nil_ _) (by omega)).mono ?_
  rintro e w1 ⟨a, pa, la, hid, A1, n1, c1, rfl, ho, hb1⟩
  have HI1 : Hid (IL w1 A1 n1 (zs (wv n gl (us.take 0)))) := by
    rw [List.take_zero]
    have := ho.il
    rw [hid rfl] at this
    exact this
  clear pa la hid ho hc1
  go_wp2_with fail
  go_loopw [5, 13] (fun pv iv wr => ∃ (i n' c' : Nat) (A' : Option Addr), pv = .slice A' n' c' ∧ iv = .int .i64 i ∧ i ≤ m ∧ Hid (IL wr A' n' (zs (wv n gl (us.take i)))) ∧ Below w.heap.size w wr) (fun _ iv _ => m - (intOf iv).toNat)
  case atStart => exact ⟨0, n1, c1, A1, rfl, rfl, Nat.zero_le _, HI1, hb1⟩
  case round =>
    clear HI1 hb1
    obtain ⟨i, n', c', A', rfl, rfl, hi, HI, hb⟩ := hrel
    by_cases hlt : i < m
    · obtain ⟨ad, rfl, hcl⟩ := (HU.out.below hb).at_ hlt
      have hium : i < us.length := by rw [HUM.out]; exact hlt
      have hmem : us.getD i 0 ∈ us := by
        rw [show us.getD i 0 = us[i] by simp [List.getD, List.getElem?_eq_getElem hium]]
        exact List.getElem_mem _
      obtain ⟨hx0, hx1, hx2⟩ := HUS.out _ hmem
      have HT := hide (wv_take (n := n) (gl := gl) hium)
      have HPI := hide (HPM.out i (by omega))
      obtain ⟨x, hx⟩ : ∃ x, us.getD i 0 = x := ⟨_, rfl⟩
      rw [hx] at hcl hx0 hx1 hx2 HT
      have HLP := hide (lg_pm HP.out hx0 (by rw [HLQ.out]; exact hx1) (by rw [HLQ.out]; exact hx2))
      obtain ⟨j, hj⟩ : ∃ j : Nat, max x (-x) - 1 = (j : Int) := ⟨(max x (-x) - 1).toNat, by omega⟩
      have hjq : j < q := by omega
      have hjg : j < gl.length := by rw [HLQ.out]; exact hjq
      obtain ⟨ad2, G, gm, gd, rfl, hcg, hig⟩ := HL.out.at2 hb hjq
      rw [zss_getD hjg] at hig
      have HIG := hide (hig.below hb)
      have HPG := hide (HP.out _ (getD_mem'' hjg))
      have hc2 : (wr).cell? ⟨gb, 0, none⟩ = some (.slice (some ad2) q d) := (HBB.out.below hb HBB.out.lt).cell 0
      have hmx : 1 ≤ max x (-x) := by omega
      have hmx2 : max x (-x) ≤ 1000 := by omega
      have HB := hide hb
      by_cases hneg : x < 0
      · have HLG : Hid (lg gl x = inv (gl.getD j [])) := by
          unfold lg; rw [if_pos hneg, show (-x - 1).toNat = j by omega]; exact rfl
        clear hx hmem hium hx0 hig hb
        go_wp2_with fail
        refine (inverse_ok G gm gd (gl.getD j []) wr HIG.out HPG.out.1 (by rw [HPG.out.2]; exact hn)).mono ?_
        rintro e w2 ⟨A2, n2, c2, rfl, ho2, hb2⟩
        have HI2 := hide (HI.out.below hb2)
        have HO2 : Hid (IL w2 A2 n2 (zs (lg gl x))) := by rw [HLG.out]; exact ho2.il
        have hb3 := HB.out.trans (hb2.mono HB.out.size)
        clear ho2 hb2 hcl hcg hc2
        go_wp2_with fail
        refine (kcompose_ok A' A2 n' n2 c' c2 _ _ w2 HI2.out HO2.out HPI.out.1 HLP.out.1 (by rw [HPI.out.2, HLP.out.2]) (by rw [HPI.out.2]; exact hn)).mono ?_
        rintro e w3 ⟨A3, n3, c3, rfl, ho3, hb4⟩
        have HO3 : Hid (IL w3 A3 n3 (zs (wv n gl (us.take (i + 1))))) := by rw [HT.out]; exact ho3.il
        have hb5 := hb3.trans (hb4.mono hb3.size)
        clear ho3 hb4 hb3
        go_wp2
        go_roundw
        case rel => exact ⟨i + 1, n3, c3, A3, rfl, by go_num, by omega, HO3.out, hb5⟩
        case measure => simp [intOf]; omega
      · have HLG : Hid (lg gl x = gl.getD j []) := by
          unfold lg; rw [if_neg hneg, show (x - 1).toNat = j by omega]; exact rfl
        have HO2 : Hid (IL wr G gm (zs (lg gl x))) := by rw [HLG.out]; exact HIG.out
        clear hx hmem hium hx0 hig hb
        go_wp2_with fail
        refine (kcompose_ok A' G n' gm c' gd _ _ wr HI.out HO2.out HPI.out.1 HLP.out.1 (by rw [HPI.out.2, HLP.out.2]) (by rw [HPI.out.2]; exact hn)).mono ?_
        rintro e w3 ⟨A3, n3, c3, rfl, ho3, hb4⟩
        have HO3 : Hid (IL w3 A3 n3 (zs (wv n gl (us.take (i + 1))))) := by rw [HT.out]; exact ho3.il
        have hb5 := HB.out.trans (hb4.mono HB.out.size)
        clear ho3 hb4 hcl hcg hc2
        go_wp2
        go_roundw
        case rel => exact ⟨i + 1, n3, c3, A3, rfl, by go_num, by omega, HO3.out, hb5⟩
        case measure => simp [intOf]; omega
    · have HE : Hid (us.take i = us) := hide (List.take_of_length_le (by rw [HUM.out]; omega))
      rw [HE.out] at HI
      go_wp2
      go_ret
      exact ⟨A', n', c', rfl, HI.out, hb⟩
end Go.Proofs.Ytnpdlfnhpghkmaa
