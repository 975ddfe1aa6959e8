/- timbref1.Terms.Mul. -/
import Derived.Test.YtgmjighgncpefaaTpl
namespace Go.Proofs.Ytgmjighgncpefaa
set_option linter.unusedVariables false
set_option linter.unusedSimpArgs false
open Go.RowKit Go.Maps

theorem LP.term_mul_snoc2 (x c : Int) (Y : LP) (y d : Int) : LP.term x c * (Y + LP.term y d) = LP.term x c * Y + LP.term (x + y) (c * d) := by
  rw [CR.mul_add]
  congr 1
theorem coefT_mul_le {Va Vb : Nat} {b : List Tm} (hb : ∀ k, (coefT b k).natAbs ≤ Vb) : ∀ (a : List Tm), (∀ p ∈ a, p.2.natAbs ≤ Va) → ∀ k, (coefT (mulT a b) k).natAbs ≤ a.length * (Va * Vb)
  | [], _, k => by simp [mulT, coefT, sumT]
  | (e, c) :: a, h, k => by
    rw [mulT_cons, coefT_append, coefT_scale]
    have h1 := coefT_mul_le hb a (fun p hp => h p (List.mem_cons_of_mem _ hp)) k
    have h2 : (c * coefT b (k - e)).natAbs ≤ Va * Vb := by rw [Int.natAbs_mul]; exact Nat.mul_le_mul (h _ List.mem_cons_self) (hb _)
    have h3 := Int.natAbs_add_le (c * coefT b (k - e)) (coefT (mulT a b) k)
    rw [List.length_cons, Nat.succ_mul]
    show (c * coefT b (k - e) + coefT (mulT a b) k).natAbs ≤ _
    omega

set_option maxRecDepth 100000 in
set_option maxHeartbeats 4000000 in
theorem tmul_any (ba bb : Nat) (ta tb : List Tm) (Ea Eb E Va Vb : Nat) (hE : Ea + Eb ≤ E) (hE4 : E ≤ 400000) (hV : ta.length * (Va * Vb) ≤ 4000000000000000000) (w : World) (ha : MapI w ba ta) (hb : MapI w bb tb) (hka : ∀ p ∈ ta, p.1.natAbs ≤ Ea) (hkb : ∀ p ∈ tb, p.1.natAbs ≤ Eb) (hva : ∀ p ∈ ta, p.2.natAbs ≤ Va) (hvb : ∀ p ∈ tb, p.2.natAbs ≤ Vb) :
    Calls Try.prog 29 #[.map (some ba), .map (some bb)] w (GivesT w (LP.mk ta * LP.mk tb) E) := by
  have hmm := @run_makeMap Try.prog
  have HA := hide ha
  have HB := hide hb
  have HKA := hide hka
  have HKB := hide hkb
  have HVA := hide hva
  have HVB := hide hvb
  have HV := hide hV
  have lba := ha.lt
  have lbb := hb.lt
  clear ha hb hka hkb hva hvb hV
  have HW0 := hide ((Below.refl w.heap.size w).alloc (Nat.le_refl _) (.map #[] 0))
  have HM0 := hide (MapI.made w)
  obtain ⟨m, hm⟩ : ∃ m, w.heap.size = m := ⟨_, rfl⟩
  have HMM := hide hm
  clear hm
  go_enter Try.func29, Try.ntmps29
  go_upto_region 2 with fail
  obtain ⟨w0, hw0⟩ : ∃ x, w.alloc (.map #[] 0) = x := ⟨_, rfl⟩
  have hm := HMM.out
  rw [hw0] at HW0 HM0 ⊢
  rw [hm] at HM0 HW0 lba lbb ⊢
  clear hw0 hm
  have l0 : m < w0.heap.size := HM0.out.lt
  go_wp2_with (refine wpList_rangeI _ rfl _ _ rfl ut ba ta rfl (HA.out.below (by rw [HMM.out]; exact HW0.out)) (fun p hp => wfI (by have := HKA.out p hp; omega)) ?_; intro w1 cnt hrg hg1 hs1)
  obtain ⟨r, hr⟩ : ∃ r, w0.heap.size = r := ⟨_, rfl⟩
  rw [hr] at hrg l0 ⊢
  have HM1 := hide (HM0.out.kept hg1 (by simp))
  have HW1 := hide (HW0.out.grown hg1 (by rw [← HMM.out]; exact HW0.out.size) (by simp))
  have HRG := hide hrg
  clear hrg hg1 hs1 HM0 HW0 hr
  go_frame
  go_loopw [6] (fun _ wr => ∃ (o done rem : List Tm) (cnt : Nat), RangeI wr ba r ta done rem cnt ∧ MapI wr m o ∧ LP.mk o = LP.mk done * LP.mk tb ∧ (∀ p ∈ o, p.1.natAbs ≤ E) ∧ Below m w wr ∧ m < r) (fun _ wr => wr.rangeLeft ba r)
  case atStart => exact ⟨[], [], ta, cnt, HRG.out, HM1.out, rfl, by simp, HW1.out, l0⟩
  case round =>
    clear HRG HM1 HW1 l0
    obtain ⟨o, done, rem, cnt, hrg, hmo, ho, hke, hbw, hmr⟩ := hrel
    have HMO := hide hmo
    have HO := hide ho
    have HKE := hide hke
    have HBW := hide hbw
    have HRG := hide hrg
    have hor := hrg.left_eq
    have HOR := hide hor
    clear hmo ho hke hbw hrg hor
    go_wp2_with (refine wpList_nextI _ rfl _ rfl ba r ta done rem cnt rfl HRG.out ?_ ?_)
    · intro hrem
      subst hrem
      have HO2 : Hid (LP.mk o = LP.mk ta * LP.mk tb) := hide (by rw [HO.out, mk_perm HRG.out.all])
      clear HRG HOR HO
      go_wp2_with fail
      go_ret
      exact ⟨m, o, rfl, by rw [HMM.out]; exact Nat.le_refl _, HMO.out, HO2.out, HKE.out, by rw [HMM.out]; exact HBW.out⟩
    · intro x c rem' w2 cnt' hpm hrg2 hlt hg2 hs2 hen
      have hfr := hrg2.fresh
      have hxE := HKA.out _ hfr.2
      have hcV := HVA.out _ hfr.2
      have hDL : done.length + 1 ≤ ta.length := by
        have := hrg2.perm.length_eq
        simp at this
        omega
      have hDV : Hid (∀ p ∈ done, p.2.natAbs ≤ Va) := hide fun p hp => HVA.out p (hrg2.mem p (by simp [hp]))
      simp only at hxE hcV
      have HMO2 := hide (HMO.out.kept hg2 (by intro e; injection e with e; omega))
      have HBW2 := hide (HBW.out.grown hg2 (by rw [← HMM.out]; exact HBW.out.size) (fun j hj => by injection hj with hj; omega))
      have HRG2 := hide hrg2
      have HX := hide hxE
      have HC := hide hcV
      have HDL := hide hDL
      clear hrg2 hfr hpm hg2 hs2 hxE hcV HMO HBW HRG hDL
      go_upto_region 5 with fail
      clear hen
      have l2 : m < w2.heap.size := HMO2.out.lt
      have lr2 : r < w2.heap.size := HRG2.out.lt
      go_wp2_with (refine wpList_rangeI _ rfl _ _ rfl ut bb tb rfl (HB.out.below (by rw [HMM.out]; exact HBW2.out)) (fun p hp => wfI (by have := HKB.out p hp; omega)) ?_; intro w3 cnt3 hrg hg3 hs3)
      obtain ⟨r2, hr2⟩ : ∃ r, w2.heap.size = r := ⟨_, rfl⟩
      rw [hr2] at hrg l2 lr2 ⊢
      have HM3 := hide (HMO2.out.kept hg3 (by simp))
      have HW3 := hide (HBW2.out.grown hg3 (by rw [← HMM.out]; exact HBW2.out.size) (by simp))
      have HQ3 := hide (HRG2.out.kept hg3 (by simp) (by simp))
      have HRG3 := hide hrg
      clear hrg hg3 hs3 HMO2 HBW2 hr2 HRG2
      go_frame
      rename World => wo
      go_loopw [8] (fun _ wr => ∃ (o doneB rem : List Tm) (cnt : Nat), RangeI wr bb r2 tb doneB rem cnt ∧ RangeI wr ba r ta (done ++ [(x, c)]) rem' cnt' ∧ MapI wr m o ∧ LP.mk o = LP.mk done * LP.mk tb + LP.term x c * LP.mk doneB ∧ (∀ p ∈ o, p.1.natAbs ≤ E) ∧ Below m w wr) (fun _ wr => wr.rangeLeft bb r2)
      case atStart => exact ⟨o, [], tb, cnt3, HRG3.out, HQ3.out, HM3.out, by rw [HO.out]; show _ = _ + LP.term x c * (0 : LP); rw [CR.mul_zero, CR.add_zero], HKE.out, HW3.out⟩
      case round =>
        clear HRG3 HM3 HW3 HQ3 HKE HO
        obtain ⟨o, doneB, rem, cntB, hrg, hqq, hmo, ho, hke, hbw⟩ := hrel
        have HMO := hide hmo
        have HO := hide ho
        have HKE := hide hke
        have HBW := hide hbw
        have HRG := hide hrg
        have HQQ := hide hqq
        have hor := hrg.left_eq
        have HOR2 := hide hor
        clear hmo ho hke hbw hrg hor hqq
        go_wp2_with (refine wpList_nextI _ rfl _ rfl bb r2 tb doneB rem cntB rfl HRG.out ?_ ?_)
        · intro hrem
          subst hrem
          have HO2 : Hid (LP.mk o = LP.mk (done ++ [(x, c)]) * LP.mk tb) := hide (by rw [HO.out, mk_perm HRG.out.all, LP.mk_snoc, CR.add_mul])
          clear HRG HOR2 HO
          go_wp2_with fail
          go_roundw
          case rel => exact ⟨o, _, rem', cnt', HQQ.out, HMO.out, HO2.out, HKE.out, HBW.out, hmr⟩
          case measure => rw [HQQ.out.left_eq, HOR.out]; exact hlt
        · intro y d rem'' w4 cnt'' hpm hrg2 hlt2 hg2 hs2 hen
          have hfr := hrg2.fresh
          have hyE := HKB.out _ hfr.2
          have hdV := HVB.out _ hfr.2
          simp only at hyE hdV
          have HMO2 := hide (HMO.out.kept hg2 (by intro e; injection e with e; omega))
          have HQQ2 := hide (HQQ.out.kept hg2 (by intro e; injection e with e; omega) (by intro e; injection e with e; omega))
          have HBW2 := hide (HBW.out.grown hg2 (by rw [← HMM.out]; exact HBW.out.size) (fun j hj => by injection hj with hj; omega))
          have hco : coefT o (x + y) = coefT (mulT done tb) (x + y) := by
            have h : LP.co (LP.mk o) (x + y) = LP.co (LP.mk done * LP.mk tb + LP.term x c * LP.mk doneB) (x + y) := by rw [HO.out]
            rw [LP.co_add, LP.co_term_mul, LP.mul_mk, LP.co_mk, LP.co_mk, LP.co_mk, show x + y - x = y by omega, hfr.1, Int.mul_zero, Int.add_zero] at h
            exact h
          have haV : (coefT o (x + y)).natAbs ≤ done.length * (Va * Vb) := by rw [hco]; exact coefT_mul_le (fun k => coefT_le HB.out.nodup HVB.out k) done hDV.out _
          have hcd : (c * d).natAbs ≤ Va * Vb := by rw [Int.natAbs_mul]; exact Nat.mul_le_mul HC.out hdV
          have hsum : done.length * (Va * Vb) + Va * Vb ≤ 4000000000000000000 := by
            have h1 : (done.length + 1) * (Va * Vb) ≤ ta.length * (Va * Vb) := Nat.mul_le_mul_right _ HDL.out
            rw [Nat.succ_mul] at h1
            exact Nat.le_trans h1 HV.out
          have HO3 : Hid (LP.mk (putT o (x + y) (coefT o (x + y) + c * d)) = LP.mk done * LP.mk tb + LP.term x c * LP.mk (doneB ++ [(y, d)])) := hide (by rw [LP.mk_snoc, LP.term_mul_snoc2, ← CR.add_assoc, ← HO.out]; exact putT_mk HMO.out.nodup rfl _ _ _ rfl)
          have hx1 := HX.out
          obtain ⟨a0, ha0⟩ : ∃ a, coefT o (x + y) = a := ⟨_, rfl⟩
          obtain ⟨z0, hz0⟩ : ∃ a, x + y = a := ⟨_, rfl⟩
          have hza : z0.natAbs ≤ E := by omega
          rw [ha0] at haV HO3
          rw [hz0] at ha0 HO3
          have hwx : wrap64 (x + y) = z0 := by rw [hz0]; exact wrap64_small (by omega)
          have hwk : wrap64 (c * d) = c * d := wrap64_small (by omega)
          have hwr : wrap64 (a0 + c * d) = a0 + c * d := wrap64_small (by omega)
          have hle : o.length < 1000000 := Nat.lt_of_le_of_lt (nodup_leT HMO.out.nodup HKE.out) (by omega)
          have HWF := hide (wfI (x := z0) (by omega))
          have HKE2 : Hid (∀ p ∈ putT o z0 (a0 + c * d), p.1.natAbs ≤ E) := hide (fun p hp => by
            rcases putT_keys _ _ _ p hp with h | h
            · exact HKE.out p h
            · rw [h]; exact hza)
          have HRG2 := hide hrg2
          have HCO := hide ha0
          clear hrg2 hfr hpm hg2 hs2 hco hyE hdV ha0 haV hcd hsum hz0 hx1 hza
          go_wp2_with (first
            | ((with_reducible show wpList _ _ _ (Oper.mk _ (.lookup _ _ _ _) _ _ _ _ :: _) _ _); refine wpList_lookI _ rfl _ _ _ rfl ut m o z0 rfl HMO2.out (by simp only [hwx]; rfl) HWF.out ?_; rw [HCO.out])
            | ((with_reducible show wpList _ _ _ (Oper.mk _ (.mapUpdate _ _ _ _) _ _ _ _ :: _) _ _); refine wpList_putI _ rfl _ _ _ _ rfl ut m o z0 _ rfl HMO2.out hle rfl rfl HWF.out ?_; intro w9 hm9 hg9 hs9; try simp only [hwk, hwr] at hm9))
          have HM9 := hide hm9
          have HRG9 := hide (HRG2.out.kept hg9 (by intro e; injection e with e; omega) (by intro e; injection e with e; omega))
          have HQQ9 := hide (HQQ2.out.kept hg9 (by intro e; injection e with e; omega) (by intro e; injection e with e; omega))
          have HBW9 := hide (HBW2.out.grown hg9 (by rw [← HMM.out]; exact HBW2.out.size) (fun j hj => by injection hj with hj; omega))
          clear hg9 hs9 hen hm9 hwr hle hwk hwx
          go_frame
          go_roundw
          case rel => exact ⟨_, _, rem'', cnt'', HRG9.out, HQQ9.out, HM9.out, HO3.out, HKE2.out, HBW9.out⟩
          case measure => rw [HRG9.out.left_eq, HOR2.out]; exact hlt2
end Go.Proofs.Ytgmjighgncpefaa
