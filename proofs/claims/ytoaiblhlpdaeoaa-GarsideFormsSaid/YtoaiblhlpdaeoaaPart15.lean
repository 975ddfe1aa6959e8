/- Several texts in one. -/
import Derived.Test.YtoaiblhlpdaeoaaPart13
import Derived.Test.YtoaiblhlpdaeoaaPart9
import Derived.Test.YtoaiblhlpdaeoaaPart14
import Derived.Test.YtoaiblhlpdaeoaaPart2
/- GarsideForms. -/
namespace Go.Proofs.Ytoaiblhlpdaeoaa
set_option linter.unusedVariables false
set_option linter.unusedSimpArgs false
open Go.RowKit Gar

theorem NFw.nil_one {xs : List Int} {k : Int} {l : List (List Nat)} (h : NFw 1 xs k l) : l = [] := by
  cases l with
  | nil => rfl
  | cons p l =>
    obtain ⟨p1, p2⟩ := h.pl p (by simp)
    exfalso
    refine h.nf.one (elt p) (by simp) ((elt_one p1 p2).2 ?_)
    match p, p2 with
    | [a], _ =>
      have := p1.1 a (by simp)
      simp at this
      subst this
      rfl
theorem bfault_okB {n : Nat} {xs : List Int} (h : bfault (n : Int) xs = 0) : okB n xs := okB_of (bfault_zero h).2.2.2
theorem way_artF {n : Nat} (h2 : 2 ≤ n) (h6 : n ≤ 6) {w : List Int} (hw : okB n w) (hl : w.length ≤ 8) {k : Int} {l : List (List Nat)} (h : NFw n w k l) (z : Int) (hz : z ≠ 0) (j : Nat) : (artF ((invw w ++ wriW n k l).take j) [z]).length ≤ 30000000000 := by
  have h1 := way_bound h2 h6 hw hl h.pl h.nf h.val j z hz
  have hok : okB n (invw w ++ wriW n k l) := okB_app (okB_inv hw) (okB_wri k h.pl)
  have h3 := artF_nf (okB_nz (okB_take hok j)) (u := [z]) (fun x hx => by simp at hx; omega)
  rw [show nf [z] = [z] from rfl] at h3
  rw [h3]
  exact h1
theorem wri_len {n : Nat} (h2 : 2 ≤ n) (h6 : n ≤ 6) {k : Int} (hk : k.natAbs ≤ 8) {l : List (List Nat)} (hp : PL n l) (hl : l.length ≤ 8) : (wriW n k l).length ≤ 1000 := by
  have h1 := facW_len (l := l) (fun p hp' => (hp p hp').2) h6
  have h3 : (powW n k).length ≤ 8 * 15 := by
    obtain ⟨_, h4, _⟩ := half_len h2 h6
    unfold powW
    rw [rep_length]
    split
    · rw [invw_length]; exact Nat.mul_le_mul hk h4
    · exact Nat.mul_le_mul hk h4
  unfold wriW
  rw [List.length_append]
  omega
theorem fix_nf {n : Nat} {w : List Int} (hw : okB n w) {k : Int} {l : List (List Nat)} (h : NFw n w k l) : fixA (invw w ++ wriW n k l) n = true := by
  have hok : okB n (invw w ++ wriW n k l) := okB_app (okB_inv hw) (okB_wri k h.pl)
  refine (imgs_fix hok).1 (gp_relA (okB_okl hok) (fun x hx => by cases hx) ?_)
  rw [← gp_mul, gp_wri k h.pl, h.val, gp_one, ← iw_invw]
  exact gp_iw' n w

set_option maxRecDepth 100000 in
set_option maxHeartbeats 8000000 in
theorem garsideForms_any (F : GarC) (m : Int) (A : Option Addr) (n c : Nat) (xs : List Int) (w : World) (ha : SL w A n c xs) (hm : (Lit.int .i64 m).wf = true) :
    Calls Try.prog 3 #[.int .i64 m, .slice A n c] w fun e w' => e = .returned (.bool true) ∧ Below w.heap.size w w' := by
  have HF := hide F
  have HA := hide ha
  have HL := hide ha.il.len
  have HM := hide hm
  have hns := ha.il.small
  have HBF := hide (braidFault_any m A n c xs w ha.il hm)
  obtain ⟨f, hf⟩ : ∃ f, bfault m xs = f := ⟨_, rfl⟩
  rw [hf] at HBF
  have HFE := hide hf
  clear F ha hm hf
  go_enter Try.func3, Try.ntmps3
  go_wp2_with fail
  refine HBF.out.mono ?_
  rintro e w1 ⟨rfl, hww⟩
  subst hww
  clear HBF
  go_wp2_with fail
  refine (formed_l HF.out w).mono ?_
  rintro e w2 ⟨rfl, hb⟩
  replace HA := hide (HA.out.below hb)
  have HW := hide hb
  clear hb
  have hnt := Bool.not_true
  by_cases hf0 : f = 0
  case neg =>
    have hne : (f == 0) = false := by simpa using hf0
    have hne2 : (f != 0) = true := by simpa using hf0
    have hff : (f != f) = false := by simp
    go_wp2_with fail
    refine (HF.out.normal m A n c xs w2 HA.out HM.out).mono ?_
    rintro e w3 ⟨k, l, B, bn, bc, rfl, hs, hb, _, g⟩
    obtain ⟨rfl, rfl⟩ := g (by rw [HFE.out]; exact hf0)
    have hbn : bn = 0 := by have := hs.len; simp at this; omega
    subst hbn
    rw [HFE.out]
    replace HW := hide (HW.out.trans (hb.mono HW.out.size))
    clear hs hb g hf0
    go_wp2_with fail
    go_ret
    exact ⟨rfl, HW.out⟩
  subst hf0
  by_cases h8 : 8 < n
  · go_wp2_with fail
    refine (formed_l HF.out w2).mono ?_
    rintro e w3 ⟨rfl, hb⟩
    replace HW := hide (HW.out.trans (hb.mono HW.out.size))
    clear hb
    go_wp2_with fail
    go_ret
    exact ⟨rfl, HW.out⟩
  have hz := bfault_zero HFE.out
  obtain ⟨N, rfl⟩ : ∃ N : Nat, m = (N : Int) := ⟨m.toNat, by omega⟩
  have hN1 : 1 ≤ N := by omega
  have hN6 : N ≤ 6 := by omega
  have HOK := hide (bfault_okB HFE.out)
  have hn8 : n ≤ 8 := by omega
  clear hz h8
  go_wp2_with fail
  refine (HF.out.normal (N : Int) A n c xs w2 HA.out HM.out).mono ?_
  rintro e w3 ⟨k, l, B, bn, bc, rfl, hs, hb, g, _⟩
  have hnf := g HFE.out
  rw [Int.toNat_natCast] at hnf
  rw [HFE.out]
  replace HA := hide (HA.out.below hb)
  replace HW := hide (HW.out.trans (hb.mono HW.out.size))
  have HS := hide hs
  have HNF := hide hnf
  clear hs hb g hnf
  by_cases h1 : N = 1
  · subst h1
    have hk := HNF.out.one rfl
    subst hk
    have hl := HNF.out.nil_one
    subst hl
    have hbn : bn = 0 := by have := HS.out.len; simp at this; omega
    subst hbn
    go_wp2_with fail
    go_ret
    exact ⟨rfl, HW.out⟩
  have hN2 : 2 ≤ N := by omega
  have hk1 := power_ge hN2 HNF.out.nf HNF.out.val
  have hk2 := power_le hN2 HNF.out.nf HNF.out.val
  have hl1 := factors_le hN2 HNF.out.nf HNF.out.val
  rw [List.length_map] at hl1
  rw [HL.out] at hk1 hk2 hl1
  have hbl := HS.out.cut_zs
  have hne1 : ((N : Int) == 1) = false := by simp; omega
  have HFF := hide (facF_any (N : Int) B bn bc _ w3 HS.out HM.out)
  rw [ffE_nf hN2 hN6 HNF.out.pl HNF.out.nf (by omega)] at HFF
  clear h1
  go_wp2_with fail
  refine HFF.out.mono ?_
  rintro e w4 ⟨rfl, hb⟩
  replace HA := hide (HA.out.below hb)
  replace HS := hide (HS.out.below hb)
  replace HW := hide (HW.out.trans (hb.mono HW.out.size))
  clear hb HFF
  have HWR := hide (written_any N k B bn bc l w4 HS.out HNF.out.pl hN2 hN6 (by omega) (by omega))
  have hwk : IntKind.i64.wrap (-(n : Int)) = -(n : Int) := by rw [IntKind.wrap_i64]; omega
  go_wp2_with fail
  refine HWR.out.mono ?_
  rintro e w5 ⟨C, cn, cc, rfl, ho, hb⟩
  replace HA := hide (HA.out.below hb)
  replace HW := hide (HW.out.trans (hb.mono HW.out.size))
  have hcn : cn ≤ 1000 := by rw [← ho.len]; exact wri_len hN2 hN6 (by omega) HNF.out.pl (by omega)
  have HEQ := hide (equals_big N hN6 A n c xs C cn cc _ w5 HA.out ho.sl HOK.out (okB_wri k HNF.out.pl) (by omega) hcn (fun z hz j => way_artF hN2 hN6 HOK.out (by rw [HL.out]; exact hn8) HNF.out z hz j))
  rw [fix_nf HOK.out HNF.out] at HEQ
  clear ho hb HWR
  go_wp2_with fail
  refine HEQ.out.mono ?_
  rintro e w6 ⟨rfl, hb⟩
  replace HW := hide (HW.out.trans (hb.mono HW.out.size))
  clear hb HEQ
  go_wp2_with fail
  go_ret
  exact ⟨rfl, HW.out⟩
end Go.Proofs.Ytoaiblhlpdaeoaa
