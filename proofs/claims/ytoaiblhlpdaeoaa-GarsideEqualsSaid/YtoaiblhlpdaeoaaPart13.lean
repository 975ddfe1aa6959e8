/- Several texts in one. -/
import Derived.Test.YtoaiblhlpdaeoaaPart11
import Derived.Test.YtoaiblhlpdaeoaaPart12
import Derived.Test.YtoaiblhlpdaeoaaPart2
import Derived.Test.YtoaiblhlpdaeoaaBase2
/- GarsideEquals. -/
namespace Go.Proofs.Ytoaiblhlpdaeoaa
set_option linter.unusedVariables false
set_option linter.unusedSimpArgs false
open Go.RowKit Gar

theorem okB_Lo {n : Nat} {w : List Int} (h : okB n w) : Lo n 0 w := fun x hx => ⟨h x hx, by have := (h x hx).1; omega⟩
theorem fix_gp {n : Nat} {a b : List Int} (ha : okB n a) (hb : okB n b) : fixA (invw a ++ b) n = true ↔ gp n a = gp n b := by
  rw [gp_iff (okB_Lo ha) (okB_Lo hb)]
  exact (imgs_fix (okB_app (okB_inv ha) hb)).symm
theorem geq_ok {N : Nat} {a b : List Int} (h : eq2E (N : Int) a b = 0) : bfault (N : Int) a = 0 ∧ bfault (N : Int) b = 0 := by
  unfold eq2E at h
  by_cases h1 : bfault (N : Int) a = 0
  · rw [if_neg (by rw [h1]; simp)] at h
    exact ⟨h1, h⟩
  · rw [if_pos h1] at h
    exact absurd h h1
open Classical in
theorem geq_fix {N : Nat} {a b : List Int} (h : eq2E (N : Int) a b = 0) : geqB (N : Int) a b = fixA (invw a ++ b) N := by
  obtain ⟨h1, h2⟩ := geq_ok h
  have hf := fix_gp (okB_of (bfault_zero h1).2.2.2) (okB_of (bfault_zero h2).2.2.2)
  unfold geqB
  rw [Int.toNat_natCast, decide_eq_true h, Bool.true_and]
  by_cases e : gp N a = gp N b
  · rw [decide_eq_true e, hf.2 e]
  · rw [decide_eq_false e]
    cases hq : fixA (invw a ++ b) N with
    | false => rfl
    | true => exact absurd (hf.1 hq) e
theorem geq_no {m : Int} {a b : List Int} (h : eq2E m a b ≠ 0) : geqB m a b = false := by
  unfold geqB
  rw [decide_eq_false h]
  rfl

set_option maxRecDepth 100000 in
set_option maxHeartbeats 8000000 in
theorem garsideEquals_any (F : GarC) (m : Int) (A : Option Addr) (n c : Nat) (xs : List Int) (B : Option Addr) (l d : Nat) (ys : List Int) (w : World) (ha : SL w A n c xs) (hb : SL w B l d ys) (hm : (Lit.int .i64 m).wf = true) :
    Calls Try.prog 5 #[.int .i64 m, .slice A n c, .slice B l d] w fun e w' => e = .returned (.bool true) ∧ Below w.heap.size w w' := by
  have HF := hide F
  have HA := hide ha
  have HB := hide hb
  have HLA := hide ha.il.len
  have HLB := hide hb.il.len
  have HM := hide hm
  have hns := ha.il.small
  have hls := hb.il.small
  have HBA := hide (braidFault_any m A n c xs w ha.il hm)
  have HBB := hide (braidFault_any m B l d ys w hb.il hm)
  obtain ⟨f, hf⟩ : ∃ f, bfault m xs = f := ⟨_, rfl⟩
  rw [hf] at HBA
  have HFE := hide hf
  obtain ⟨g, hg⟩ : ∃ g, eq2E m xs ys = g := ⟨_, rfl⟩
  have HGE := hide hg
  clear F ha hb hm hf hg
  have hnt := Bool.not_true
  go_enter Try.func5, Try.ntmps5
  go_wp2_with fail
  refine HBA.out.mono ?_
  rintro e w1 ⟨rfl, hww⟩
  subst hww
  by_cases hf0 : f = 0
  case neg =>
    have hgf : g = f := by rw [← HGE.out]; unfold eq2E; rw [HFE.out, if_pos hf0]
    subst hgf
    have hne : (g == 0) = false := by simpa using hf0
    have hgg : (g == g) = true := by simp
    have HQ : Hid (geqB m xs ys = false) := hide (geq_no (by rw [HGE.out]; exact hf0))
    clear hf0
    go_wp2_with fail
    refine (formed_l HF.out w).mono ?_
    rintro e w2 ⟨rfl, hb⟩
    replace HA := hide (HA.out.below hb)
    replace HB := hide (HB.out.below hb)
    have HW := hide hb
    clear hb
    go_wp2_with fail
    refine (HF.out.equal m A n c xs B l d ys w2 HA.out HB.out HM.out).mono ?_
    rintro e w3 ⟨rfl, hb⟩
    rw [HGE.out, HQ.out]
    replace HW := hide (HW.out.trans (hb.mono HW.out.size))
    clear hb
    go_wp2_with fail
    go_ret
    exact ⟨rfl, HW.out⟩
  subst hf0
  have HGY : Hid (bfault m ys = g) := hide (by rw [← HGE.out]; unfold eq2E; rw [HFE.out, if_neg (by simp)])
  rw [HGY.out] at HBB
  go_wp2_with fail
  refine HBB.out.mono ?_
  rintro e w1 ⟨rfl, hww⟩
  subst hww
  go_wp2_with fail
  refine (formed_l HF.out w).mono ?_
  rintro e w2 ⟨rfl, hb⟩
  replace HA := hide (HA.out.below hb)
  replace HB := hide (HB.out.below hb)
  have HW := hide hb
  clear hb
  by_cases hg0 : g = 0
  case neg =>
    have hne : (g == 0) = false := by simpa using hg0
    have hgg : (g == g) = true := by simp
    have HQ : Hid (geqB m xs ys = false) := hide (geq_no (by rw [HGE.out]; exact hg0))
    clear hg0
    go_wp2_with fail
    refine (HF.out.equal m A n c xs B l d ys w2 HA.out HB.out HM.out).mono ?_
    rintro e w3 ⟨rfl, hb⟩
    rw [HGE.out, HQ.out]
    replace HW := hide (HW.out.trans (hb.mono HW.out.size))
    clear hb
    go_wp2_with fail
    go_ret
    exact ⟨rfl, HW.out⟩
  subst hg0
  by_cases h6 : 6 < n ∨ 6 < l
  · by_cases h1 : 6 < n
    · clear h6
      go_wp2_with fail
      refine (formed_l HF.out w2).mono ?_
      rintro e w3 ⟨rfl, hb⟩
      replace HW := hide (HW.out.trans (hb.mono HW.out.size))
      clear hb
      go_wp2_with fail
      go_ret
      exact ⟨rfl, HW.out⟩
    · have h2 : 6 < l := by omega
      clear h6
      go_wp2_with fail
      refine (formed_l HF.out w2).mono ?_
      rintro e w3 ⟨rfl, hb⟩
      replace HW := hide (HW.out.trans (hb.mono HW.out.size))
      clear hb
      go_wp2_with fail
      go_ret
      exact ⟨rfl, HW.out⟩
  have hn6 : n ≤ 6 := by omega
  have hl6 : l ≤ 6 := by omega
  have hz := bfault_zero HFE.out
  obtain ⟨N, rfl⟩ : ∃ N : Nat, m = (N : Int) := ⟨m.toNat, by omega⟩
  have hN6 : N ≤ 6 := by omega
  have HQ := hide (geq_fix HGE.out)
  have HOX := hide (show okB N xs from okB_of (bfault_zero HFE.out).2.2.2)
  have HOY := hide (show okB N ys from okB_of (bfault_zero HGY.out).2.2.2)
  clear h6 hz
  go_wp2_with fail
  refine (HF.out.equal (N : Int) A n c xs B l d ys w2 HA.out HB.out HM.out).mono ?_
  rintro e w3 ⟨rfl, hb⟩
  rw [HGE.out, HQ.out]
  replace HA := hide (HA.out.below hb)
  replace HB := hide (HB.out.below hb)
  replace HW := hide (HW.out.trans (hb.mono HW.out.size))
  clear hb
  have HEQ := hide (equals_any N hN6 A n c xs B l d ys w3 HA.out HB.out HOX.out HOY.out hn6 hl6)
  generalize fixA (invw xs ++ ys) N = q at *
  have hqq : (q == q) = true := by simp
  go_wp2_with fail
  refine HEQ.out.mono ?_
  rintro e w4 ⟨rfl, hb⟩
  replace HW := hide (HW.out.trans (hb.mono HW.out.size))
  clear hb HEQ
  go_wp2_with fail
  go_ret
  exact ⟨by simp, HW.out⟩
end Go.Proofs.Ytoaiblhlpdaeoaa
