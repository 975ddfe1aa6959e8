/- timbref1.Terms.Plus and Mul. -/
import Derived.Test.YtgmjighgncpefaaTsp
namespace Go.Proofs.Ytgmjighgncpefaa
set_option linter.unusedVariables false
set_option linter.unusedSimpArgs false
open Go.RowKit Go.Maps

theorem coefT_perm {a b : List Tm} (h : a.Perm b) (k : Int) : coefT a k = coefT b k := sumT_perm h
theorem mk_perm {a b : List Tm} (h : a.Perm b) : LP.mk a = LP.mk b := LP.mk_eq (coefT_perm h)
theorem coefT_le {V : Nat} : ∀ {o : List Tm}, (o.map (·.1)).Nodup → (∀ p ∈ o, p.2.natAbs ≤ V) → ∀ k, (coefT o k).natAbs ≤ V := fun {o} hn h k => by
  rw [coefT_look hn]
  cases e : lookT o k with
  | none => exact Nat.zero_le _
  | some c => exact h _ (lookT_mem e)
theorem LP.mk_snoc (o : List Tm) (x c : Int) : LP.mk (o ++ [(x, c)]) = LP.mk o + LP.term x c := rfl
theorem LP.term_mul_snoc (k : Int) (y : LP) (x c : Int) : LP.term 0 k * (y + LP.term x c) = LP.term 0 k * y + LP.term x (k * c) := by
  rw [CR.mul_add]
  congr 1
  exact LP.ext fun j => by
    rw [LP.co_term_mul, LP.co_term, LP.co_term]
    by_cases h : x = j
    · rw [if_pos (by omega), if_pos h]
    · rw [if_neg (by omega), if_neg h, Int.mul_zero]
theorem wrap64_small {c : Int} (h : c.natAbs ≤ 9000000000000000000) : wrap64 c = c := by unfold wrap64; omega
section
variable {w w' : World} {b r cnt : Nat} {T done rem : List Tm} {x c : Int}
theorem RangeI.fresh (h : RangeI w b r T (done ++ [(x, c)]) rem cnt) : coefT done x = 0 ∧ (x, c) ∈ T := by
  refine ⟨coefT_not fun p hp e => ?_, h.mem _ (by simp)⟩
  have hn : ((done ++ [(x, c)] ++ rem).map (·.1)).Nodup := (h.perm.map (·.1)).nodup_iff.2 h.nodup
  rw [List.append_assoc, List.map_append] at hn
  exact (List.nodup_append.1 hn).2.2 p.1 (List.mem_map.2 ⟨p, hp, rfl⟩) x (by simp) e
theorem RangeI.all (h : RangeI w b r T done [] cnt) : done.Perm T := by
  have := h.perm
  rwa [List.append_nil] at this
end

set_option maxRecDepth 100000 in
set_option maxHeartbeats 4000000 in
theorem plus_any (ba bb : Nat) (ta tb : List Tm) (k : Int) (hk1 : k = 1 ∨ k = -1) (E : Nat) (hE : E ≤ 400000) (w : World) (ha : MapI w ba ta) (hb : MapI w bb tb) (hka : ∀ p ∈ ta, p.1.natAbs ≤ E) (hkb : ∀ p ∈ tb, p.1.natAbs ≤ E) (hva : ∀ p ∈ ta, p.2.natAbs ≤ 4000000000000000000) (hvb : ∀ p ∈ tb, p.2.natAbs ≤ 4000000000000000000) :
    Calls Try.prog 30 #[.map (some ba), .map (some bb), .int .i64 k] w (GivesT w (LP.mk ta + LP.term 0 k * LP.mk tb) E) := by
  have hmm := @run_makeMap Try.prog
  have HA := hide ha
  have HB := hide hb
  have HKA := hide hka
  have HKB := hide hkb
  have HVA := hide hva
  have HVB := hide hvb
  have lba := ha.lt
  have lbb := hb.lt
  clear ha hb hka hkb hva hvb
  have HW0 := hide ((Below.refl w.heap.size w).alloc (Nat.le_refl _) (.map #[] 0))
  have HM0 := hide (MapI.made w)
  obtain ⟨m, hm⟩ : ∃ m, w.heap.size = m := ⟨_, rfl⟩
  have HMM := hide hm
  clear hm
  go_enter Try.func30, Try.ntmps30
  go_upto_region 2 with fail
  obtain ⟨w0, hw0⟩ : ∃ x, w.alloc (.map #[] 0) = x := ⟨_, rfl⟩
  rw [hw0] at HW0 HM0 ⊢
  have hm := HMM.out
  rw [hm] at HM0 HW0 lba lbb ⊢
  clear hw0 hm
  have l0 : m < w0.heap.size := HM0.out.lt
  go_wp2_with (refine wpList_rangeI _ rfl _ _ rfl ut ba ta rfl (HA.out.below (by rw [HMM.out]; exact HW0.out)) (fun p hp => wfI (by have := HKA.out p hp; omega)) ?_; intro w1 cnt hrg hg1 hs1)
  obtain ⟨r, hr⟩ : ∃ r, w0.heap.size = r := ⟨_, rfl⟩
  rw [hr] at hrg l0 ⊢
  have HM1 := hide (HM0.out.kept hg1 (by simp))
  have HW1 := hide (HW0.out.grown hg1 (by rw [← HMM.out]; exact HW0.out.size) (by simp))
  have HRG := hide hrg
  clear hrg hg1 hs1 HM0 HW0 hr
  go_frame
  go_loopw [8] (fun _ wr => ∃ (o done rem : List Tm) (cnt : Nat), RangeI wr ba r ta done rem cnt ∧ MapI wr m o ∧ LP.mk o = LP.mk done ∧ (∀ p ∈ o, p.1.natAbs ≤ E) ∧ Below m w wr ∧ m < r) (fun _ wr => wr.rangeLeft ba r)
  case atStart => exact ⟨[], [], ta, cnt, HRG.out, HM1.out, rfl, by simp, HW1.out, l0⟩
  case round =>
    clear HRG HM1 HW1 l0
    obtain ⟨o, done, rem, cnt, hrg, hmo, ho, hke, hbw, hmr⟩ := hrel
    have HMO := hide hmo
    have HO := hide ho
    have HKE := hide hke
    have HBW := hide hbw
    have HRG := hide hrg
    have hor := hrg.left_eq
    have HOR := hide hor
    clear hmo ho hke hbw hrg hor
    go_wp2_with (refine wpList_nextI _ rfl _ rfl ba r ta done rem cnt rfl HRG.out ?_ ?_)
    · intro hrem
      subst hrem
      have HO2 : Hid (LP.mk o = LP.mk ta) := hide (by rw [HO.out]; exact mk_perm HRG.out.all)
      have lm : m < wr.heap.size := HMO.out.lt
      clear HRG HOR HO
      go_upto_region 6 with fail
      go_wp2_with (refine wpList_rangeI _ rfl _ _ rfl ut bb tb rfl (HB.out.below (by rw [HMM.out]; exact HBW.out)) (fun p hp => wfI (by have := HKB.out p hp; omega)) ?_; intro w3 cnt3 hrg hg3 hs3)
      obtain ⟨r2, hr2⟩ : ∃ r, wr.heap.size = r := ⟨_, rfl⟩
      rw [hr2] at hrg lm ⊢
      have HM3 := hide (HMO.out.kept hg3 (by simp))
      have HW3 := hide (HBW.out.grown hg3 (by rw [← HMM.out]; exact HBW.out.size) (by simp))
      have HRG3 := hide hrg
      clear hrg hg3 hs3 HMO HBW hr2
      go_frame
      go_loopw [10] (fun _ wr => ∃ (o done rem : List Tm) (cnt : Nat), RangeI wr bb r2 tb done rem cnt ∧ MapI wr m o ∧ LP.mk o = LP.mk ta + LP.term 0 k * LP.mk done ∧ (∀ p ∈ o, p.1.natAbs ≤ E) ∧ Below m w wr ∧ m < r2) (fun _ wr => wr.rangeLeft bb r2)
      case atStart => exact ⟨o, [], tb, cnt3, HRG3.out, HM3.out, by rw [HO2.out]; show _ = _ + LP.term 0 k * (0 : LP); rw [CR.mul_zero, CR.add_zero], HKE.out, HW3.out, lm⟩
      case round =>
        clear HRG3 HM3 HW3 lm HO2 HKE
        obtain ⟨o, done, rem, cnt, hrg, hmo, ho, hke, hbw, hmr⟩ := hrel
        have HMO := hide hmo
        have HO := hide ho
        have HKE := hide hke
        have HBW := hide hbw
        have HRG := hide hrg
        have hor := hrg.left_eq
        have HOR := hide hor
        clear hmo ho hke hbw hrg hor
        go_wp2_with (refine wpList_nextI _ rfl _ rfl bb r2 tb done rem cnt rfl HRG.out ?_ ?_)
        · intro hrem
          subst hrem
          have HO2 : Hid (LP.mk o = LP.mk ta + LP.term 0 k * LP.mk tb) := hide (by rw [HO.out, mk_perm HRG.out.all])
          clear HRG HOR HO
          go_wp2_with fail
          go_ret
          exact ⟨m, o, rfl, by rw [HMM.out]; exact Nat.le_refl _, HMO.out, HO2.out, HKE.out, by rw [HMM.out]; exact HBW.out⟩
        · intro x c rem' w2 cnt' hpm hrg2 hlt hg2 hs2 hen
          have hfr := hrg2.fresh
          have hxE := HKB.out _ hfr.2
          have hcV := HVB.out _ hfr.2
          simp only at hxE hcV
          have HMO2 := hide (HMO.out.kept hg2 (by intro e; injection e with e; omega))
          have HBW2 := hide (HBW.out.grown hg2 (by rw [← HMM.out]; exact HBW.out.size) (fun j hj => by injection hj with hj; omega))
          have hco : coefT o x = coefT ta x := by
            have h : LP.co (LP.mk o) x = LP.co (LP.mk ta + LP.term 0 k * LP.mk done) x := by rw [HO.out]
            rw [LP.co_add, LP.co_term_mul, LP.co_mk, LP.co_mk, LP.co_mk, Int.sub_zero, hfr.1, Int.mul_zero, Int.add_zero] at h
            exact h
          have haV : (coefT o x).natAbs ≤ 4000000000000000000 := by rw [hco]; exact coefT_le HA.out.nodup HVA.out x
          have HO3 : Hid (LP.mk (putT o x (coefT o x + k * c)) = LP.mk ta + LP.term 0 k * LP.mk (done ++ [(x, c)])) := hide (by rw [LP.mk_snoc, LP.term_mul_snoc, ← CR.add_assoc, ← HO.out]; exact putT_mk HMO.out.nodup rfl _ _ _ rfl)
          obtain ⟨a0, ha0⟩ : ∃ a, coefT o x = a := ⟨_, rfl⟩
          rw [ha0] at haV HO3
          have hwk : wrap64 (k * c) = k * c := wrap64_small (by rcases hk1 with rfl | rfl <;> omega)
          have hwr : wrap64 (a0 + k * c) = a0 + k * c := wrap64_small (by rcases hk1 with rfl | rfl <;> omega)
          have hle : o.length < 1000000 := Nat.lt_of_le_of_lt (nodup_leT HMO.out.nodup HKE.out) (by omega)
          have HWF := hide (wfI (x := x) (by omega))
          have HKE2 : Hid (∀ p ∈ putT o x (a0 + k * c), p.1.natAbs ≤ E) := hide (fun p hp => by
            rcases putT_keys _ _ _ p hp with h | h
            · exact HKE.out p h
            · rw [h]; exact hxE)
          have HRG2 := hide hrg2
          have HCO := hide ha0
          clear hrg2 hfr hpm hg2 hs2 hco hxE hcV ha0 haV
          go_wp2_with (first
            | ((with_reducible show wpList _ _ _ (Oper.mk _ (.lookup _ _ _ _) _ _ _ _ :: _) _ _); refine wpList_lookI _ rfl _ _ _ rfl ut m o x rfl HMO2.out rfl HWF.out ?_; rw [HCO.out])
            | ((with_reducible show wpList _ _ _ (Oper.mk _ (.mapUpdate _ _ _ _) _ _ _ _ :: _) _ _); refine wpList_putI _ rfl _ _ _ _ rfl ut m o x _ rfl HMO2.out hle rfl rfl HWF.out ?_; intro w9 hm9 hg9 hs9; try simp only [hwk, hwr] at hm9))
          have HM9 := hide hm9
          have HRG9 := hide (HRG2.out.kept hg9 (by intro e; injection e with e; omega) (by intro e; injection e with e; omega))
          have HBW9 := hide (HBW2.out.grown hg9 (by rw [← HMM.out]; exact HBW2.out.size) (fun j hj => by injection hj with hj; omega))
          clear hg9 hs9 hen hm9 hwr hle hwk
          go_frame
          go_wp2_with fail
          go_roundw
          case rel => exact ⟨_, _, rem', cnt', HRG9.out, HM9.out, HO3.out, HKE2.out, HBW9.out, hmr⟩
          case measure => rw [HRG9.out.left_eq, HOR.out]; exact hlt
    · intro x c rem' w2 cnt' hpm hrg2 hlt hg2 hs2 hen
      have hfr := hrg2.fresh
      have hxE := HKA.out _ hfr.2
      have hcV := HVA.out _ hfr.2
      simp only at hxE hcV
      have HMO2 := hide (HMO.out.kept hg2 (by intro e; injection e with e; omega))
      have HBW2 := hide (HBW.out.grown hg2 (by rw [← HMM.out]; exact HBW.out.size) (fun j hj => by injection hj with hj; omega))
      have hco : coefT o x = 0 := by
        have h : LP.co (LP.mk o) x = LP.co (LP.mk done) x := by rw [HO.out]
        rw [LP.co_mk, LP.co_mk, hfr.1] at h
        exact h
      have hwr : wrap64 c = c := wrap64_small (by omega)
      have hle : o.length < 1000000 := Nat.lt_of_le_of_lt (nodup_leT HMO.out.nodup HKE.out) (by omega)
      have HO3 : Hid (LP.mk (putT o x c) = LP.mk (done ++ [(x, c)])) := hide (by rw [LP.mk_snoc, ← HO.out]; exact putT_mk HMO.out.nodup rfl _ _ _ (by rw [hco, Int.zero_add]))
      have HWF := hide (wfI (x := x) (by omega))
      have HKE2 : Hid (∀ p ∈ putT o x c, p.1.natAbs ≤ E) := hide (fun p hp => by
        rcases putT_keys _ _ _ p hp with h | h
        · exact HKE.out p h
        · rw [h]; exact hxE)
      have HRG2 := hide hrg2
      have HCO := hide hco
      clear hrg2 hfr hpm hg2 hs2 hco hxE hcV
      go_wp2_with (first
        | ((with_reducible show wpList _ _ _ (Oper.mk _ (.lookup _ _ _ _) _ _ _ _ :: _) _ _); refine wpList_lookI _ rfl _ _ _ rfl ut m o x rfl HMO2.out rfl HWF.out ?_; rw [HCO.out])
        | ((with_reducible show wpList _ _ _ (Oper.mk _ (.mapUpdate _ _ _ _) _ _ _ _ :: _) _ _); refine wpList_putI _ rfl _ _ _ _ rfl ut m o x _ rfl HMO2.out hle rfl rfl HWF.out ?_; intro w9 hm9 hg9 hs9; simp only [Int.zero_add, hwr] at hm9))
      have HM9 := hide hm9
      have HRG9 := hide (HRG2.out.kept hg9 (by intro e; injection e with e; omega) (by intro e; injection e with e; omega))
      have HBW9 := hide (HBW2.out.grown hg9 (by rw [← HMM.out]; exact HBW2.out.size) (fun j hj => by injection hj with hj; omega))
      clear hg9 hs9 hen hm9 hwr hle
      go_frame
      go_wp2_with fail
      go_roundw
      case rel => exact ⟨_, _, rem', cnt', HRG9.out, HM9.out, HO3.out, HKE2.out, HBW9.out, hmr⟩
      case measure => rw [HRG9.out.left_eq, HOR.out]; exact hlt
end Go.Proofs.Ytgmjighgncpefaa
