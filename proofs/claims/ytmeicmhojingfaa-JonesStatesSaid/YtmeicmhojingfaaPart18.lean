/- Several texts in one. -/
import Derived.Test.YtmeicmhojingfaaPart17
import Derived.Test.YtmeicmhojingfaaBase1
import Derived.Test.YtmeicmhojingfaaPart13
import Derived.Test.YtmeicmhojingfaaPart1
import Derived.Test.YtmeicmhojingfaaPart9
/- timbref1.Terms.Plus and Mul. -/
namespace Go.Proofs.Ytmeicmhojingfaa
set_option linter.unusedVariables false
set_option linter.unusedSimpArgs false
open Go.RowKit Go.Maps

theorem coefT_perm {a b : List Tm} (h : a.Perm b) (k : Int) : coefT a k = coefT b k := sumT_perm h
theorem mk_perm {a b : List Tm} (h : a.Perm b) : LP.mk a = LP.mk b := LP.mk_eq (coefT_perm h)
theorem coefT_le {V : Nat} : ∀ {o : List Tm}, (o.map (·.1)).Nodup → (∀ p ∈ o, p.2.natAbs ≤ V) → ∀ k, (coefT o k).natAbs ≤ V := fun {o} hn h k => by
  rw [coefT_look hn]
  cases e : lookT o k with
  | none => exact Nat.zero_le _
  | some c => exact h _ (lookT_mem e)
theorem LP.mk_snoc (o : List Tm) (x c : Int) : LP.mk (o ++ [(x, c)]) = LP.mk o + LP.term x c := rfl
theorem LP.term_mul_snoc (k : Int) (y : LP) (x c : Int) : LP.term 0 k * (y + LP.term x c) = LP.term 0 k * y + LP.term x (k * c) := by
  rw [CR.mul_add]
  congr 1
  exact LP.ext fun j => by
    rw [LP.co_term_mul, LP.co_term, LP.co_term]
    by_cases h : x = j
    · rw [if_pos (by omega), if_pos h]
    · rw [if_neg (by omega), if_neg h, Int.mul_zero]
theorem wrap64_small {c : Int} (h : c.natAbs ≤ 9000000000000000000) : wrap64 c = c := by unfold wrap64; omega
section
variable {w w' : World} {b r cnt : Nat} {T done rem : List Tm} {x c : Int}
theorem RangeI.fresh (h : RangeI w b r T (done ++ [(x, c)]) rem cnt) : coefT done x = 0 ∧ (x, c) ∈ T := by
  refine ⟨coefT_not fun p hp e => ?_, h.mem _ (by simp)⟩
  have hn : ((done ++ [(x, c)] ++ rem).map (·.1)).Nodup := (h.perm.map (·.1)).nodup_iff.2 h.nodup
  rw [List.append_assoc, List.map_append] at hn
  exact (List.nodup_append.1 hn).2.2 p.1 (List.mem_map.2 ⟨p, hp, rfl⟩) x (by simp) e
theorem RangeI.all (h : RangeI w b r T done [] cnt) : done.Perm T := by
  have := h.perm
  rwa [List.append_nil] at this
end

set_option maxRecDepth 100000 in
set_option maxHeartbeats 4000000 in
theorem plus_any (ba bb : Nat) (ta tb : List Tm) (k : Int) (hk1 : k = 1 ∨ k = -1) (E : Nat) (hE : E ≤ 400000) (w : World) (ha : MapI w ba ta) (hb : MapI w bb tb) (hka : ∀ p ∈ ta, p.1.natAbs ≤ E) (hkb : ∀ p ∈ tb, p.1.natAbs ≤ E) (hva : ∀ p ∈ ta, p.2.natAbs ≤ 4000000000000000000) (hvb : ∀ p ∈ tb, p.2.natAbs ≤ 4000000000000000000) :
    Calls Try.prog 37 #[.map (some ba), .map (some bb), .int .i64 k] w (GivesT w (LP.mk ta + LP.term 0 k * LP.mk tb) E) := by
  have hmm := @run_makeMap Try.prog
  have HA := hide ha
  have HB := hide hb
  have HKA := hide hka
  have HKB := hide hkb
  have HVA := hide hva
  have HVB := hide hvb
  have lba := ha.lt
  have lbb := hb.lt
  clear ha hb hka hkb hva hvb
  have HW0 := hide ((Below.refl w.heap.size w).alloc (Nat.le_refl _) (.map #[] 0))
  have HM0 := hide (MapI.made w)
  obtain ⟨m, hm⟩ : ∃ m, w.heap.size = m := ⟨_, rfl⟩
  have HMM := hide hm
  clear hm
  go_enter Try.func37, Try.ntmps37
  go_upto_region 2 with fail
  obtain ⟨w0, hw0⟩ : ∃ x, w.alloc (.map #[] 0) = x := ⟨_, rfl⟩
  rw [hw0] at HW0 HM0 ⊢
  have hm := HMM.out
  rw [hm] at HM0 HW0 lba lbb ⊢
  clear hw0 hm
  have l0 : m < w0.heap.size := HM0.out.lt
  go_wp2_with (refine wpList_rangeI _ rfl _ _ rfl ut ba ta rfl (HA.out.below (by rw [HMM.out]; exact HW0.out)) (fun p hp => wfI (by have := HKA.out p hp; omega)) ?_; intro w1 cnt hrg hg1 hs1)
  obtain ⟨r, hr⟩ : ∃ r, w0.heap.size = r := ⟨_, rfl⟩
  rw [hr] at hrg l0 ⊢
  have HM1 := hide (HM0.out.kept hg1 (by simp))
  have HW1 := hide (HW0.out.grown hg1 (by rw [← HMM.out]; exact HW0.out.size) (by simp))
  have HRG := hide hrg
  clear hrg hg1 hs1 HM0 HW0 hr
  go_frame
  go_loopw [8] (fun _ wr => ∃ (o done rem : List Tm) (cnt : Nat), RangeI wr ba r ta done rem cnt ∧ MapI wr m o ∧ LP.mk o = LP.mk done ∧ (∀ p ∈ o, p.1.natAbs ≤ E) ∧ Below m w wr ∧ m < r) (fun _ wr => wr.rangeLeft ba r)
  case atStart => exact ⟨[], [], ta, cnt, HRG.out, HM1.out, rfl, by simp, HW1.out, l0⟩
  case round =>
    clear HRG HM1 HW1 l0
    obtain ⟨o, done, rem, cnt, hrg, hmo, ho, hke, hbw, hmr⟩ := hrel
    have HMO := hide hmo
    have HO := hide ho
    have HKE := hide hke
    have HBW := hide hbw
    have HRG := hide hrg
    have hor := hrg.left_eq
    have HOR := hide hor
    clear hmo ho hke hbw hrg hor
    go_wp2_with (refine wpList_nextI _ rfl _ rfl ba r ta done rem cnt rfl HRG.out ?_ ?_)
    · intro hrem
      subst hrem
      have HO2 : Hid (LP.mk o = LP.mk ta) := hide (by rw [HO.out]; exact mk_perm HRG.out.all)
      have lm : m < wr.heap.size := HMO.out.lt
      clear HRG HOR HO
      go_upto_region 6 with fail
      go_wp2_with (refine wpList_rangeI _ rfl _ _ rfl ut bb tb rfl (HB.out.below (by rw [HMM.out]; exact HBW.out)) (fun p hp => wfI (by have := HKB.out p hp; omega)) ?_; intro w3 cnt3 hrg hg3 hs3)
      obtain ⟨r2, hr2⟩ : ∃ r, wr.heap.size = r := ⟨_, rfl⟩
      rw [hr2] at hrg lm ⊢
      have HM3 := hide (HMO.out.kept hg3 (by simp))
      have HW3 := hide (HBW.out.grown hg3 (by rw [← HMM.out]; exact HBW.out.size) (by simp))
      have HRG3 := hide hrg
      clear hrg hg3 hs3 HMO HBW hr2
      go_frame
      go_loopw [10] (fun _ wr => ∃ (o done rem : List Tm) (cnt : Nat), RangeI wr bb r2 tb done rem cnt ∧ MapI wr m o ∧ LP.mk o = LP.mk ta + LP.term 0 k * LP.mk done ∧ (∀ p ∈ o, p.1.natAbs ≤ E) ∧ Below m w wr ∧ m < r2) (fun _ wr => wr.rangeLeft bb r2)
      case atStart => exact ⟨o, [], tb, cnt3, HRG3.out, HM3.out, by rw [HO2.out]; show _ = _ + LP.term 0 k * (0 : LP); rw [CR.mul_zero, CR.add_zero], HKE.out, HW3.out, lm⟩
      case round =>
        clear HRG3 HM3 HW3 lm HO2 HKE
        obtain ⟨o, done, rem, cnt, hrg, hmo, ho, hke, hbw, hmr⟩ := hrel
        have HMO := hide hmo
        have HO := hide ho
        have HKE := hide hke
        have HBW := hide hbw
        have HRG := hide hrg
        have hor := hrg.left_eq
        have HOR := hide hor
        clear hmo ho hke hbw hrg hor
        go_wp2_with (refine wpList_nextI _ rfl _ rfl bb r2 tb done rem cnt rfl HRG.out ?_ ?_)
        · intro hrem
          subst hrem
          have HO2 : Hid (LP.mk o = LP.mk ta + LP.term 0 k * LP.mk tb) := hide (by rw [HO.out, mk_perm HRG.out.all])
          clear HRG HOR HO
          go_wp2_with fail
          go_ret
          exact ⟨m, o, rfl, by rw [HMM.out]; exact Nat.le_refl _, HMO.out, HO2.out, HKE.out, by rw [HMM.out]; exact HBW.out⟩
        · intro x c rem' w2 cnt' hpm hrg2 hlt hg2 hs2 hen
          have hfr := hrg2.fresh
          have hxE := HKB.out _ hfr.2
          have hcV := HVB.out _ hfr.2
          simp only at hxE hcV
          have HMO2 := hide (HMO.out.kept hg2 (by intro e; injection e with e; omega))
          have HBW2 := hide (HBW.out.grown hg2 (by rw [← HMM.out]; exact HBW.out.size) (fun j hj => by injection hj with hj; omega))
          have hco : coefT o x = coefT ta x := by
            have h : LP.co (LP.mk o) x = LP.co (LP.mk ta + LP.term 0 k * LP.mk done) x := by rw [HO.out]
            rw [LP.co_add, LP.co_term_mul, LP.co_mk, LP.co_mk, LP.co_mk, Int.sub_zero, hfr.1, Int.mul_zero, Int.add_zero] at h
            exact h
          have haV : (coefT o x).natAbs ≤ 4000000000000000000 := by rw [hco]; exact coefT_le HA.out.nodup HVA.out x
          have HO3 : Hid (LP.mk (putT o x (coefT o x + k * c)) = LP.mk ta + LP.term 0 k * LP.mk (done ++ [(x, c)])) := hide (by rw [LP.mk_snoc, LP.term_mul_snoc, ← CR.add_assoc, ← HO.out]; exact putT_mk HMO.out.nodup rfl _ _ _ rfl)
          obtain ⟨a0, ha0⟩ : ∃ a, coefT o x = a := ⟨_, rfl⟩
          rw [ha0] at haV HO3
          have hwk : wrap64 (k * c) = k * c := wrap64_small (by rcases hk1 with rfl | rfl <;> omega)
          have hwr : wrap64 (a0 + k * c) = a0 + k * c := wrap64_small (by rcases hk1 with rfl | rfl <;> omega)
          have hle : o.length < 1000000 := Nat.lt_of_le_of_lt (nodup_leT HMO.out.nodup HKE.out) (by omega)
          have HWF := hide (wfI (x := x) (by omega))
          have HKE2 : Hid (∀ p ∈ putT o x (a0 + k * c), p.1.natAbs ≤ E) := hide (fun p hp => by
            rcases putT_keys _ _ _ p hp with h | h
            · exact HKE.out p h
            · rw [h]; exact hxE)
          have HRG2 := hide hrg2
          have HCO := hide ha0
          clear hrg2 hfr hpm hg2 hs2 hco hxE hcV ha0 haV
          go_wp2_with (first
            | ((with_reducible show wpList _ _ _ (Oper.mk _ (.lookup _ _ _ _) _ _ _ _ :: _) _ _); refine wpList_lookI _ rfl _ _ _ rfl ut m o x rfl HMO2.out rfl HWF.out ?_; rw [HCO.out])
            | ((with_reducible show wpList _ _ _ (Oper.mk _ (.mapUpdate _ _ _ _) _ _ _ _ :: _) _ _); refine wpList_putI _ rfl _ _ _ _ rfl ut m o x _ rfl HMO2.out hle rfl rfl HWF.out ?_; intro w9 hm9 hg9 hs9; try simp only [hwk, hwr] at hm9))
          have HM9 := hide hm9
          have HRG9 := hide (HRG2.out.kept hg9 (by intro e; injection e with e; omega) (by intro e; injection e with e; omega))
          have HBW9 := hide (HBW2.out.grown hg9 (by rw [← HMM.out]; exact HBW2.out.size) (fun j hj => by injection hj with hj; omega))
          clear hg9 hs9 hen hm9 hwr hle hwk
          go_frame
          go_wp2_with fail
          go_roundw
          case rel => exact ⟨_, _, rem', cnt', HRG9.out, HM9.out, HO3.out, HKE2.out, HBW9.out, hmr⟩
          case measure => rw [HRG9.out.left_eq, HOR.out]; exact hlt
    · intro x c rem' w2 cnt' hpm hrg2 hlt hg2 hs2 hen
      have hfr := hrg2.fresh
      have hxE := HKA.out _ hfr.2
      have hcV := HVA.out _ hfr.2
      simp only at hxE hcV
      have HMO2 := hide (HMO.out.kept hg2 (by intro e; injection e with e; omega))
      have HBW2 := hide (HBW.out.grown hg2 (by rw [← HMM.out]; exact HBW.out.size) (fun j hj => by injection hj with hj; omega))
      have hco : coefT o x = 0 := by
        have h : LP.co (LP.mk o) x = LP.co (LP.mk done) x := by rw [HO.out]
        rw [LP.co_mk, LP.co_mk, hfr.1] at h
        exact h
      have hwr : wrap64 c = c := wrap64_small (by omega)
      have hle : o.length < 1000000 := Nat.lt_of_le_of_lt (nodup_leT HMO.out.nodup HKE.out) (by omega)
      have HO3 : Hid (LP.mk (putT o x c) = LP.mk (done ++ [(x, c)])) := hide (by rw [LP.mk_snoc, ← HO.out]; exact putT_mk HMO.out.nodup rfl _ _ _ (by rw [hco, Int.zero_add]))
      have HWF := hide (wfI (x := x) (by omega))
      have HKE2 : Hid (∀ p ∈ putT o x c, p.1.natAbs ≤ E) := hide (fun p hp => by
        rcases putT_keys _ _ _ p hp with h | h
        · exact HKE.out p h
        · rw [h]; exact hxE)
      have HRG2 := hide hrg2
      have HCO := hide hco
      clear hrg2 hfr hpm hg2 hs2 hco hxE hcV
      go_wp2_with (first
        | ((with_reducible show wpList _ _ _ (Oper.mk _ (.lookup _ _ _ _) _ _ _ _ :: _) _ _); refine wpList_lookI _ rfl _ _ _ rfl ut m o x rfl HMO2.out rfl HWF.out ?_; rw [HCO.out])
        | ((with_reducible show wpList _ _ _ (Oper.mk _ (.mapUpdate _ _ _ _) _ _ _ _ :: _) _ _); refine wpList_putI _ rfl _ _ _ _ rfl ut m o x _ rfl HMO2.out hle rfl rfl HWF.out ?_; intro w9 hm9 hg9 hs9; simp only [Int.zero_add, hwr] at hm9))
      have HM9 := hide hm9
      have HRG9 := hide (HRG2.out.kept hg9 (by intro e; injection e with e; omega) (by intro e; injection e with e; omega))
      have HBW9 := hide (HBW2.out.grown hg9 (by rw [← HMM.out]; exact HBW2.out.size) (fun j hj => by injection hj with hj; omega))
      clear hg9 hs9 hen hm9 hwr hle
      go_frame
      go_wp2_with fail
      go_roundw
      case rel => exact ⟨_, _, rem', cnt', HRG9.out, HM9.out, HO3.out, HKE2.out, HBW9.out, hmr⟩
      case measure => rw [HRG9.out.left_eq, HOR.out]; exact hlt
end Go.Proofs.Ytmeicmhojingfaa
/- timbref1.Terms.Mul. -/
namespace Go.Proofs.Ytmeicmhojingfaa
set_option linter.unusedVariables false
set_option linter.unusedSimpArgs false
open Go.RowKit Go.Maps

theorem LP.term_mul_snoc2 (x c : Int) (Y : LP) (y d : Int) : LP.term x c * (Y + LP.term y d) = LP.term x c * Y + LP.term (x + y) (c * d) := by
  rw [CR.mul_add]
  congr 1
theorem coefT_mul_le {Va Vb : Nat} {b : List Tm} (hb : ∀ k, (coefT b k).natAbs ≤ Vb) : ∀ (a : List Tm), (∀ p ∈ a, p.2.natAbs ≤ Va) → ∀ k, (coefT (mulT a b) k).natAbs ≤ a.length * (Va * Vb)
  | [], _, k => by simp [mulT, coefT, sumT]
  | (e, c) :: a, h, k => by
    rw [mulT_cons, coefT_append, coefT_scale]
    have h1 := coefT_mul_le hb a (fun p hp => h p (List.mem_cons_of_mem _ hp)) k
    have h2 : (c * coefT b (k - e)).natAbs ≤ Va * Vb := by rw [Int.natAbs_mul]; exact Nat.mul_le_mul (h _ List.mem_cons_self) (hb _)
    have h3 := Int.natAbs_add_le (c * coefT b (k - e)) (coefT (mulT a b) k)
    rw [List.length_cons, Nat.succ_mul]
    show (c * coefT b (k - e) + coefT (mulT a b) k).natAbs ≤ _
    omega

set_option maxRecDepth 100000 in
set_option maxHeartbeats 4000000 in
theorem tmul_any (ba bb : Nat) (ta tb : List Tm) (Ea Eb E Va Vb : Nat) (hE : Ea + Eb ≤ E) (hE4 : E ≤ 400000) (hV : ta.length * (Va * Vb) ≤ 4000000000000000000) (w : World) (ha : MapI w ba ta) (hb : MapI w bb tb) (hka : ∀ p ∈ ta, p.1.natAbs ≤ Ea) (hkb : ∀ p ∈ tb, p.1.natAbs ≤ Eb) (hva : ∀ p ∈ ta, p.2.natAbs ≤ Va) (hvb : ∀ p ∈ tb, p.2.natAbs ≤ Vb) :
    Calls Try.prog 13 #[.map (some ba), .map (some bb)] w (GivesT w (LP.mk ta * LP.mk tb) E) := by
  have hmm := @run_makeMap Try.prog
  have HA := hide ha
  have HB := hide hb
  have HKA := hide hka
  have HKB := hide hkb
  have HVA := hide hva
  have HVB := hide hvb
  have HV := hide hV
  have lba := ha.lt
  have lbb := hb.lt
  clear ha hb hka hkb hva hvb hV
  have HW0 := hide ((Below.refl w.heap.size w).alloc (Nat.le_refl _) (.map #[] 0))
  have HM0 := hide (MapI.made w)
  obtain ⟨m, hm⟩ : ∃ m, w.heap.size = m := ⟨_, rfl⟩
  have HMM := hide hm
  clear hm
  go_enter Try.func13, Try.ntmps13
  go_upto_region 2 with fail
  obtain ⟨w0, hw0⟩ : ∃ x, w.alloc (.map #[] 0) = x := ⟨_, rfl⟩
  have hm := HMM.out
  rw [hw0] at HW0 HM0 ⊢
  rw [hm] at HM0 HW0 lba lbb ⊢
  clear hw0 hm
  have l0 : m < w0.heap.size := HM0.out.lt
  go_wp2_with (refine wpList_rangeI _ rfl _ _ rfl ut ba ta rfl (HA.out.below (by rw [HMM.out]; exact HW0.out)) (fun p hp => wfI (by have := HKA.out p hp; omega)) ?_; intro w1 cnt hrg hg1 hs1)
  obtain ⟨r, hr⟩ : ∃ r, w0.heap.size = r := ⟨_, rfl⟩
  rw [hr] at hrg l0 ⊢
  have HM1 := hide (HM0.out.kept hg1 (by simp))
  have HW1 := hide (HW0.out.grown hg1 (by rw [← HMM.out]; exact HW0.out.size) (by simp))
  have HRG := hide hrg
  clear hrg hg1 hs1 HM0 HW0 hr
  go_frame
  go_loopw [6] (fun _ wr => ∃ (o done rem : List Tm) (cnt : Nat), RangeI wr ba r ta done rem cnt ∧ MapI wr m o ∧ LP.mk o = LP.mk done * LP.mk tb ∧ (∀ p ∈ o, p.1.natAbs ≤ E) ∧ Below m w wr ∧ m < r) (fun _ wr => wr.rangeLeft ba r)
  case atStart => exact ⟨[], [], ta, cnt, HRG.out, HM1.out, rfl, by simp, HW1.out, l0⟩
  case round =>
    clear HRG HM1 HW1 l0
    obtain ⟨o, done, rem, cnt, hrg, hmo, ho, hke, hbw, hmr⟩ := hrel
    have HMO := hide hmo
    have HO := hide ho
    have HKE := hide hke
    have HBW := hide hbw
    have HRG := hide hrg
    have hor := hrg.left_eq
    have HOR := hide hor
    clear hmo ho hke hbw hrg hor
    go_wp2_with (refine wpList_nextI _ rfl _ rfl ba r ta done rem cnt rfl HRG.out ?_ ?_)
    · intro hrem
      subst hrem
      have HO2 : Hid (LP.mk o = LP.mk ta * LP.mk tb) := hide (by rw [HO.out, mk_perm HRG.out.all])
      clear HRG HOR HO
      go_wp2_with fail
      go_ret
      exact ⟨m, o, rfl, by rw [HMM.out]; exact Nat.le_refl _, HMO.out, HO2.out, HKE.out, by rw [HMM.out]; exact HBW.out⟩
    · intro x c rem' w2 cnt' hpm hrg2 hlt hg2 hs2 hen
      have hfr := hrg2.fresh
      have hxE := HKA.out _ hfr.2
      have hcV := HVA.out _ hfr.2
      have hDL : done.length + 1 ≤ ta.length := by
        have := hrg2.perm.length_eq
        simp at this
        omega
      have hDV : Hid (∀ p ∈ done, p.2.natAbs ≤ Va) := hide fun p hp => HVA.out p (hrg2.mem p (by simp [hp]))
      simp only at hxE hcV
      have HMO2 := hide (HMO.out.kept hg2 (by intro e; injection e with e; omega))
      have HBW2 := hide (HBW.out.grown hg2 (by rw [← HMM.out]; exact HBW.out.size) (fun j hj => by injection hj with hj; omega))
      have HRG2 := hide hrg2
      have HX := hide hxE
      have HC := hide hcV
      have HDL := hide hDL
      clear hrg2 hfr hpm hg2 hs2 hxE hcV HMO HBW HRG hDL
      go_upto_region 5 with fail
      clear hen
      have l2 : m < w2.heap.size := HMO2.out.lt
      have lr2 : r < w2.heap.size := HRG2.out.lt
      go_wp2_with (refine wpList_rangeI _ rfl _ _ rfl ut bb tb rfl (HB.out.below (by rw [HMM.out]; exact HBW2.out)) (fun p hp => wfI (by have := HKB.out p hp; omega)) ?_; intro w3 cnt3 hrg hg3 hs3)
      obtain ⟨r2, hr2⟩ : ∃ r, w2.heap.size = r := ⟨_, rfl⟩
      rw [hr2] at hrg l2 lr2 ⊢
      have HM3 := hide (HMO2.out.kept hg3 (by simp))
      have HW3 := hide (HBW2.out.grown hg3 (by rw [← HMM.out]; exact HBW2.out.size) (by simp))
      have HQ3 := hide (HRG2.out.kept hg3 (by simp) (by simp))
      have HRG3 := hide hrg
      clear hrg hg3 hs3 HMO2 HBW2 hr2 HRG2
      go_frame
      rename World => wo
      go_loopw [8] (fun _ wr => ∃ (o doneB rem : List Tm) (cnt : Nat), RangeI wr bb r2 tb doneB rem cnt ∧ RangeI wr ba r ta (done ++ [(x, c)]) rem' cnt' ∧ MapI wr m o ∧ LP.mk o = LP.mk done * LP.mk tb + LP.term x c * LP.mk doneB ∧ (∀ p ∈ o, p.1.natAbs ≤ E) ∧ Below m w wr) (fun _ wr => wr.rangeLeft bb r2)
      case atStart => exact ⟨o, [], tb, cnt3, HRG3.out, HQ3.out, HM3.out, by rw [HO.out]; show _ = _ + LP.term x c * (0 : LP); rw [CR.mul_zero, CR.add_zero], HKE.out, HW3.out⟩
      case round =>
        clear HRG3 HM3 HW3 HQ3 HKE HO
        obtain ⟨o, doneB, rem, cntB, hrg, hqq, hmo, ho, hke, hbw⟩ := hrel
        have HMO := hide hmo
        have HO := hide ho
        have HKE := hide hke
        have HBW := hide hbw
        have HRG := hide hrg
        have HQQ := hide hqq
        have hor := hrg.left_eq
        have HOR2 := hide hor
        clear hmo ho hke hbw hrg hor hqq
        go_wp2_with (refine wpList_nextI _ rfl _ rfl bb r2 tb doneB rem cntB rfl HRG.out ?_ ?_)
        · intro hrem
          subst hrem
          have HO2 : Hid (LP.mk o = LP.mk (done ++ [(x, c)]) * LP.mk tb) := hide (by rw [HO.out, mk_perm HRG.out.all, LP.mk_snoc, CR.add_mul])
          clear HRG HOR2 HO
          go_wp2_with fail
          go_roundw
          case rel => exact ⟨o, _, rem', cnt', HQQ.out, HMO.out, HO2.out, HKE.out, HBW.out, hmr⟩
          case measure => rw [HQQ.out.left_eq, HOR.out]; exact hlt
        · intro y d rem'' w4 cnt'' hpm hrg2 hlt2 hg2 hs2 hen
          have hfr := hrg2.fresh
          have hyE := HKB.out _ hfr.2
          have hdV := HVB.out _ hfr.2
          simp only at hyE hdV
          have HMO2 := hide (HMO.out.kept hg2 (by intro e; injection e with e; omega))
          have HQQ2 := hide (HQQ.out.kept hg2 (by intro e; injection e with e; omega) (by intro e; injection e with e; omega))
          have HBW2 := hide (HBW.out.grown hg2 (by rw [← HMM.out]; exact HBW.out.size) (fun j hj => by injection hj with hj; omega))
          have hco : coefT o (x + y) = coefT (mulT done tb) (x + y) := by
            have h : LP.co (LP.mk o) (x + y) = LP.co (LP.mk done * LP.mk tb + LP.term x c * LP.mk doneB) (x + y) := by rw [HO.out]
            rw [LP.co_add, LP.co_term_mul, LP.mul_mk, LP.co_mk, LP.co_mk, LP.co_mk, show x + y - x = y by omega, hfr.1, Int.mul_zero, Int.add_zero] at h
            exact h
          have haV : (coefT o (x + y)).natAbs ≤ done.length * (Va * Vb) := by rw [hco]; exact coefT_mul_le (fun k => coefT_le HB.out.nodup HVB.out k) done hDV.out _
          have hcd : (c * d).natAbs ≤ Va * Vb := by rw [Int.natAbs_mul]; exact Nat.mul_le_mul HC.out hdV
          have hsum : done.length * (Va * Vb) + Va * Vb ≤ 4000000000000000000 := by
            have h1 : (done.length + 1) * (Va * Vb) ≤ ta.length * (Va * Vb) := Nat.mul_le_mul_right _ HDL.out
            rw [Nat.succ_mul] at h1
            exact Nat.le_trans h1 HV.out
          have HO3 : Hid (LP.mk (putT o (x + y) (coefT o (x + y) + c * d)) = LP.mk done * LP.mk tb + LP.term x c * LP.mk (doneB ++ [(y, d)])) := hide (by rw [LP.mk_snoc, LP.term_mul_snoc2, ← CR.add_assoc, ← HO.out]; exact putT_mk HMO.out.nodup rfl _ _ _ rfl)
          have hx1 := HX.out
          obtain ⟨a0, ha0⟩ : ∃ a, coefT o (x + y) = a := ⟨_, rfl⟩
          obtain ⟨z0, hz0⟩ : ∃ a, x + y = a := ⟨_, rfl⟩
          have hza : z0.natAbs ≤ E := by omega
          rw [ha0] at haV HO3
          rw [hz0] at ha0 HO3
          have hwx : wrap64 (x + y) = z0 := by rw [hz0]; exact wrap64_small (by omega)
          have hwk : wrap64 (c * d) = c * d := wrap64_small (by omega)
          have hwr : wrap64 (a0 + c * d) = a0 + c * d := wrap64_small (by omega)
          have hle : o.length < 1000000 := Nat.lt_of_le_of_lt (nodup_leT HMO.out.nodup HKE.out) (by omega)
          have HWF := hide (wfI (x := z0) (by omega))
          have HKE2 : Hid (∀ p ∈ putT o z0 (a0 + c * d), p.1.natAbs ≤ E) := hide (fun p hp => by
            rcases putT_keys _ _ _ p hp with h | h
            · exact HKE.out p h
            · rw [h]; exact hza)
          have HRG2 := hide hrg2
          have HCO := hide ha0
          clear hrg2 hfr hpm hg2 hs2 hco hyE hdV ha0 haV hcd hsum hz0 hx1 hza
          go_wp2_with (first
            | ((with_reducible show wpList _ _ _ (Oper.mk _ (.lookup _ _ _ _) _ _ _ _ :: _) _ _); refine wpList_lookI _ rfl _ _ _ rfl ut m o z0 rfl HMO2.out (by simp only [hwx]; rfl) HWF.out ?_; rw [HCO.out])
            | ((with_reducible show wpList _ _ _ (Oper.mk _ (.mapUpdate _ _ _ _) _ _ _ _ :: _) _ _); refine wpList_putI _ rfl _ _ _ _ rfl ut m o z0 _ rfl HMO2.out hle rfl rfl HWF.out ?_; intro w9 hm9 hg9 hs9; try simp only [hwk, hwr] at hm9))
          have HM9 := hide hm9
          have HRG9 := hide (HRG2.out.kept hg9 (by intro e; injection e with e; omega) (by intro e; injection e with e; omega))
          have HQQ9 := hide (HQQ2.out.kept hg9 (by intro e; injection e with e; omega) (by intro e; injection e with e; omega))
          have HBW9 := hide (HBW2.out.grown hg9 (by rw [← HMM.out]; exact HBW2.out.size) (fun j hj => by injection hj with hj; omega))
          clear hg9 hs9 hen hm9 hwr hle hwk hwx
          go_frame
          go_roundw
          case rel => exact ⟨_, _, rem'', cnt'', HRG9.out, HQQ9.out, HM9.out, HO3.out, HKE2.out, HBW9.out⟩
          case measure => rw [HRG9.out.left_eq, HOR2.out]; exact hlt2
end Go.Proofs.Ytmeicmhojingfaa
/- timbref1.Terms.Poly. -/
namespace Go.Proofs.Ytmeicmhojingfaa
set_option linter.unusedVariables false
set_option linter.unusedSimpArgs false
open Go.RowKit Go.Maps

/-- What the first loop of Poly knows of the terms that it has seen. -/
def LH (done : List Tm) (low high : Int) (any : Bool) : Prop :=
  match any with
  | false => (∀ p ∈ done, p.2 = 0) ∧ low = 0 ∧ high = 0
  | true => (∃ c, c ≠ 0 ∧ (low, c) ∈ done) ∧ (∃ c, c ≠ 0 ∧ (high, c) ∈ done) ∧ ∀ p ∈ done, p.2 ≠ 0 → low ≤ p.1 ∧ p.1 ≤ high
theorem LH.zero {done : List Tm} {low high : Int} {any : Bool} (h : LH done low high any) (x : Int) : LH (done ++ [(x, 0)]) low high any := by
  cases any with
  | false => exact ⟨fun p hp => by rcases List.mem_append.1 hp with hp | hp; exact h.1 p hp; rw [List.mem_singleton.1 hp], h.2⟩
  | true =>
    obtain ⟨⟨c, hc, h1⟩, ⟨d, hd, h2⟩, h3⟩ := h
    refine ⟨⟨c, hc, List.mem_append_left _ h1⟩, ⟨d, hd, List.mem_append_left _ h2⟩, fun p hp h0 => ?_⟩
    rcases List.mem_append.1 hp with hp | hp
    · exact h3 p hp h0
    · rw [List.mem_singleton.1 hp] at h0; exact absurd rfl h0
theorem LH.first {done : List Tm} {low high : Int} (h : LH done low high false) (x : Int) {c : Int} (hc : c ≠ 0) : LH (done ++ [(x, c)]) x x true := by
  refine ⟨⟨c, hc, by simp⟩, ⟨c, hc, by simp⟩, fun p hp h0 => ?_⟩
  rcases List.mem_append.1 hp with hp | hp
  · exact absurd (h.1 p hp) h0
  · rw [List.mem_singleton.1 hp]; exact ⟨Int.le_refl _, Int.le_refl _⟩
theorem LH.next {done : List Tm} {low high : Int} (h : LH done low high true) (x : Int) {c : Int} (hc : c ≠ 0) : LH (done ++ [(x, c)]) (if x < low then x else low) (if high < x then x else high) true := by
  obtain ⟨⟨c1, hc1, h1⟩, ⟨d, hd, h2⟩, h3⟩ := h
  refine ⟨?_, ?_, fun p hp h0 => ?_⟩
  · by_cases e : x < low
    · rw [if_pos e]; exact ⟨c, hc, by simp⟩
    · rw [if_neg e]; exact ⟨c1, hc1, List.mem_append_left _ h1⟩
  · by_cases e : high < x
    · rw [if_pos e]; exact ⟨c, hc, by simp⟩
    · rw [if_neg e]; exact ⟨d, hd, List.mem_append_left _ h2⟩
  · rcases List.mem_append.1 hp with hp | hp
    · have := h3 p hp h0
      split <;> split <;> omega
    · rw [List.mem_singleton.1 hp]
      show (if x < low then x else low) ≤ x ∧ x ≤ (if high < x then x else high)
      split <;> split <;> omega
theorem LH.none_ {T : List Tm} {low high : Int} (hn : (T.map (·.1)).Nodup) {done : List Tm} (hp : done.Perm T) (h : LH done low high false) : LP.canon (LP.mk T) = (0, []) := by
  have : LP.mk T = 0 := LP.ext fun k => by
    rw [LP.co_mk, LP.co_zero, ← coefT_perm hp, coefT_look ((hp.map (·.1)).nodup_iff.2 hn)]
    cases e : lookT done k with
    | none => rfl
    | some c => exact h.1 _ (lookT_mem e)
  rw [this, LP.canon_zero]
theorem LH.some_ {T : List Tm} {low high : Int} (hn : (T.map (·.1)).Nodup) {done : List Tm} (hp : done.Perm T) (h : LH done low high true) : ∃ n : Nat, high = low + n ∧ LP.canon (LP.mk T) = (low, LP.win (LP.mk T) low (n + 1)) := by
  have hn2 := (hp.map (·.1)).nodup_iff.2 hn
  obtain ⟨⟨c1, hc1, h1⟩, ⟨d, hd, h2⟩, h3⟩ := h
  have hle := h3 _ h2 hd
  have e : high = low + ((high - low).toNat : Nat) := by have := hle.1; simp only at this; omega
  have v1 : LP.co (LP.mk T) low = c1 := by rw [LP.co_mk, ← coefT_perm hp, coefT_look hn2, lookT_of_mem hn2 h1]; rfl
  have v2 : LP.co (LP.mk T) high = d := by rw [LP.co_mk, ← coefT_perm hp, coefT_look hn2, lookT_of_mem hn2 h2]; rfl
  refine ⟨(high - low).toNat, e, LP.canon_win (fun k hk => ?_) (by rw [v1]; exact hc1) (by rw [← e, v2]; exact hd)⟩
  rw [LP.co_mk, ← coefT_perm hp, coefT_look hn2] at hk
  cases el : lookT done k with
  | none => rw [el] at hk; exact absurd rfl hk
  | some c =>
    rw [el] at hk
    have := h3 _ (lookT_mem el) hk
    simp only at this
    omega
theorem LH.low_le {done : List Tm} {low high : Int} {any : Bool} {E : Nat} (h : LH done low high any) (hk : ∀ p ∈ done, p.1.natAbs ≤ E) : low.natAbs ≤ E ∧ high.natAbs ≤ E := by
  cases any with
  | false => obtain ⟨_, rfl, rfl⟩ := h; exact ⟨Nat.zero_le _, Nat.zero_le _⟩
  | true => obtain ⟨⟨c1, hc1, h1⟩, ⟨d, hd, h2⟩, h3⟩ := h; exact ⟨hk _ h1, hk _ h2⟩
theorem grownBy_set (w : World) (g i : Nat) (v : Value) : w.grownBy (w.setCell ⟨g, i, none⟩ v) (some g) :=
  ⟨rfl, rfl, rfl, by simp, fun k _ hne => Below.heap_setCell w ⟨g, i, none⟩ v k (fun e => hne (by rw [e]))⟩
theorem LP.win_succ (x : LP) (lo : Int) (k : Nat) : LP.win x lo (k + 1) = LP.win x lo k ++ [LP.co x (lo + k)] := by simp [LP.win, List.range_succ]

set_option maxRecDepth 100000 in
set_option maxHeartbeats 4000000 in
theorem tpoly_any (b : Nat) (T : List Tm) (E : Nat) (hE : E ≤ 400000) (w : World) (ha : MapI w b T) (hk : ∀ p ∈ T, p.1.natAbs ≤ E) :
    Calls Try.prog 12 #[.map (some b)] w (GivesP w (LP.canon (LP.mk T)).1 (LP.canon (LP.mk T)).2) := by
  obtain ⟨i0, hi0, hz0, hz1, hz2⟩ := info_parts int_info
  have HI0 := hide hi0
  have HZ0 := hide hz0
  have HZ1 := hide hz1
  have HZ2 := hide hz2
  clear hi0 hz0 hz1 hz2
  have HT := hide ha
  have HK := hide hk
  have lb := ha.lt
  clear ha hk
  have HB0 := hide (Blk.new w 24 #[.int .i64 0, .slice none 0 0])
  have HW0 := hide ((Below.refl w.heap.size w).alloc (Nat.le_refl _) (.cells #[.int .i64 0, .slice none 0 0] 24))
  obtain ⟨m, hm⟩ : ∃ m, w.heap.size = m := ⟨_, rfl⟩
  have HMM := hide hm
  clear hm
  go_enter Try.func12, Try.ntmps12
  go_upto_region 2 with fail
  obtain ⟨w0, hw0⟩ : ∃ x, w.alloc (.cells #[.int .i64 0, .slice none 0 0] 24) = x := ⟨_, rfl⟩
  have hm := HMM.out
  rw [hw0] at HW0 HB0 ⊢
  rw [hm] at HB0 HW0 lb ⊢
  clear hw0 hm
  have l0 : m < w0.heap.size := HB0.out.lt
  go_wp2_with (refine wpList_rangeI _ rfl _ _ rfl ut b T rfl (HT.out.below (by rw [HMM.out]; exact HW0.out)) (fun p hp => wfI (by have := HK.out p hp; omega)) ?_; intro w1 cnt hrg hg1 hs1)
  obtain ⟨r, hr⟩ : ∃ r, w0.heap.size = r := ⟨_, rfl⟩
  rw [hr] at hrg l0 ⊢
  have HB1 := hide (HB0.out.grown hg1 (by simp))
  have HW1 := hide (HW0.out.grown hg1 (by rw [← HMM.out]; exact HW0.out.size) (by simp))
  have HRG := hide hrg
  clear hrg hg1 hs1 HB0 HW0 hr
  go_frame
  go_loopw [3, 4, 5] (fun v3 v4 v5 wr => ∃ (low high : Int) (any : Bool) (done rem : List Tm) (cnt : Nat), v3 = .int .i64 low ∧ v4 = .int .i64 high ∧ v5 = .bool any ∧ RangeI wr b r T done rem cnt ∧ LH done low high any ∧ Blk wr m 24 #[.int .i64 0, .slice none 0 0] ∧ Below m w wr ∧ m < r) (fun _ _ _ wr => wr.rangeLeft b r)
  case atStart => exact ⟨0, 0, false, [], T, cnt, rfl, rfl, rfl, HRG.out, ⟨by simp, rfl, rfl⟩, HB1.out, HW1.out, l0⟩
  case round =>
    clear HRG HB1 HW1 l0
    obtain ⟨low, high, any, done, rem, cnt, rfl, rfl, rfl, hrg, hlh, hbk, hbw, hmr⟩ := hrel
    have HLH := hide hlh
    have HBK := hide hbk
    have HBW := hide hbw
    have HRG := hide hrg
    have hor := hrg.left_eq
    have HOR := hide hor
    clear hlh hbk hbw hrg hor
    go_wp2_with (refine wpList_nextI _ rfl _ rfl b r T done rem cnt rfl HRG.out ?_ ?_)
    · intro hrem
      subst hrem
      have hpm := HRG.out.all
      have lm : m < wr.heap.size := HBK.out.lt
      have hc0 := HBK.out.cell 0
      have hc1 := HBK.out.cell 1
      simp at hc0 hc1
      have hf0 := HBK.out.frozen 0
      have hf1 := HBK.out.frozen 1
      cases any with
      | false =>
        have HC := hide (HLH.out.none_ HT.out.nodup hpm)
        clear HRG HOR HLH hpm
        go_wp2_with fail
        refine bodyPost_ret (results_poly rfl _ rfl ((HBK.out.set_ 0 (.int .i64 0)).set_ 1 (.slice none 0 0))) rfl ?_
        rw [HC.out]
        refine ⟨none, 0, 0, rfl, SL.nil_ _, fun h => absurd h (by omega), ?_⟩
        rw [HMM.out]
        exact (HBW.out.setCell (p := ⟨m, 0, none⟩) (Nat.le_refl _) _).setCell (p := ⟨m, 1, none⟩) (Nat.le_refl _) _
      | true =>
        obtain ⟨n, hn, hcan⟩ := HLH.out.some_ HT.out.nodup hpm
        have hlb := HLH.out.low_le (fun p hp => HK.out p (hpm.subset hp))
        subst hn
        have HC := hide hcan
        have HLB := hide hlb
        clear HRG HOR HLH hpm hcan hlb
        go_upto_region 14 with fail
        obtain ⟨q, hq⟩ : ∃ q, wr.heap.size = q := ⟨_, rfl⟩
        have HNB := hide (Blk.new wr 24 #[.int .i64 low, .slice none 0 0])
        have HMB := hide (HBK.out.alloc (.cells #[.int .i64 low, .slice none 0 0] 24))
        have HMW := hide (HBW.out.alloc (by rw [← HMM.out]; exact HBW.out.size) (.cells #[.int .i64 low, .slice none 0 0] 24))
        obtain ⟨w5, hw5⟩ : ∃ x, wr.alloc (.cells #[.int .i64 low, .slice none 0 0] 24) = x := ⟨_, rfl⟩
        rw [hw5] at HNB HMB HMW ⊢
        rw [hq] at HNB lm ⊢
        clear hw5 hq hc0 hc1 hf0 hf1 HBK HBW
        have hnE := HLB.out
        have hn8 : n ≤ 800000 := by omega
        go_wp2_with fail
        go_loopw [9] (fun iv wr => ∃ (k d : Nat) (A : Option Addr), iv = .int .i64 (low + k) ∧ k ≤ n + 1 ∧ Blk wr q 24 #[.int .i64 low, .slice A k d] ∧ OwnI wr (q + 1) A k d (LP.win (LP.mk T) low k) ∧ Blk wr m 24 #[.int .i64 0, .slice none 0 0] ∧ Below m w wr) (fun iv _ => (low + n + 1 - intOf iv).toNat)
        case atStart => exact ⟨0, 0, none, by simp, by omega, HNB.out, OwnI.nil_ _ _, HMB.out, HMW.out⟩
        case round =>
          rename World => wo
          clear HNB HMB HMW
          obtain ⟨k, d, A, rfl, hk, hbq, hown, hbm, hbw⟩ := hrel
          have HBQ := hide hbq
          have HO := hide hown
          have HBM := hide hbm
          have HBW := hide hbw
          have lq := hbq.lt
          have lm2 := hbm.lt
          have hq0 := hbq.cell 0
          have hq1 := hbq.cell 1
          simp at hq0 hq1
          clear hbq hown hbm hbw
          by_cases hlt : k < n + 1
          · have hle : decide (low + (k : Int) ≤ low + n) = true := by simp; omega
            have HWF := hide (wfI (x := low + k) (by omega))
            have HTO := hide (HT.out.below (w' := wo) (by rw [HMM.out]; exact HBW.out))
            have HWS := hide (LP.win_succ (LP.mk T) low k)
            rw [show LP.co (LP.mk T) (low + k) = coefT T (low + k) from rfl] at HWS
            obtain ⟨cv, hcv⟩ : ∃ cv, coefT T (low + k) = cv := ⟨_, rfl⟩
            rw [hcv] at HWS
            have HCV := hide hcv
            clear hcv
            have HNQ : Hid (some q ≠ (Value.slice A (k + 1) d).ownBlock) := hide (fun e => by
              have := (HO.out.lt q (by rw [ownBlock_len A k (k + 1) d d]; exact e.symm)).1
              omega)
            have HNM : Hid (some m ≠ (Value.slice A (k + 1) d).ownBlock) := hide (fun e => by
              have := (HO.out.lt m (by rw [ownBlock_len A k (k + 1) d d]; exact e.symm)).1
              omega)
            have HMA : Hid (∀ j, (Value.slice A (k + 1) d).ownBlock = some j → m ≤ j) := hide (fun j e => by
              have := (HO.out.lt j (by rw [ownBlock_len A k (k + 1) d d]; exact e)).1
              omega)
            go_wp2_with (first
              | ((with_reducible show wpList _ _ _ (Oper.mk _ (.lookup _ _ _ _) _ _ _ _ :: _) _ _); refine wpList_lookI _ rfl _ _ _ rfl ut b T (low + k) rfl HTO.out rfl HWF.out ?_; rw [HCV.out])
              | (at_builtin; refine wpList_append_int _ rfl (.tmp 47) (.tmp 51) 22 rfl (q + 1) i0 Try.underlying22 HI0.out HZ0.out HZ1.out HZ2.out A k d (LP.win (LP.mk T) low k) rfl (HO.out.alloc _) (some ⟨_, 0, none⟩) 1 1 [cv] rfl (IL.lit _ [cv] (by simp) rfl rfl) (by omega) (by simp; omega) ?_; intro A8 c8 w8 hap; have HB8 := hide ((HBQ.out.alloc _).grown hap.grown HNQ.out); have hq8 := HB8.out.cell 1; simp at hq8; have hf8 := HB8.out.frozen 1; have l8 := HB8.out.lt))
            have hO8 := hap.own
            rw [← HWS.out] at hO8
            have HB9 := hide (HB8.out.set_ 1 (.slice A8 (k + 1) c8))
            have HO9 := hide (hO8.kept (grownBy_set w8 q 1 (.slice A8 (k + 1) c8)) (by
              rcases h0 : (Value.slice A8 (k + 1) c8).ownBlock with _ | j
              · exact .inl rfl
              · right
                intro e
                have := (hO8.lt j h0).1
                injection e with e
                omega))
            have HM9 := hide (((HBM.out.alloc (.cells #[.int .i64 cv] 3)).grown hap.grown HNM.out).far (p := ⟨q, 1, none⟩) (by show m ≠ q; omega) (.slice A8 (k + 1) c8))
            have HW9 := hide (((HBW.out.alloc (by rw [← HMM.out]; exact HBW.out.size) (.cells #[.int .i64 cv] 3)).grown hap.grown (by simp; omega) (fun j hj => HMA.out j hj)).setCell (p := ⟨q, 1, none⟩) (by show m ≤ q; omega) (.slice A8 (k + 1) c8))
            clear hap hO8 hq8 hf8
            go_roundw
            case rel => exact ⟨k + 1, c8, A8, by congr 1; omega, by omega, HB9.out, HO9.out, HM9.out, HW9.out⟩
            case measure => simp [intOf]; omega
          · have hkn : k = n + 1 := by omega
            subst hkn
            have hle : decide (low + ((n + 1 : Nat) : Int) ≤ low + n) = false := by simp; omega
            have hc0 := HBM.out.cell 0
            have hc1 := HBM.out.cell 1
            simp at hc0 hc1
            have hf0 := HBM.out.frozen 0
            have hf1 := HBM.out.frozen 1
            have HLT := hide (fun ad (e : A = some ad) => (HO.out.lt ad.block (by rw [e]; rfl)).1)
            clear hlt
            go_wp2_with fail
            refine bodyPost_ret (results_poly rfl _ rfl ((HBM.out.set_ 0 (.int .i64 low)).set_ 1 (.slice A (n + 1) d))) rfl ?_
            rw [HC.out]
            refine ⟨A, n + 1, d, rfl, ?_, fun h ad e => by have := HLT.out ad e; rw [HMM.out]; omega, ?_⟩
            · exact (HO.out.sl.setCell (fun h ad e => by have := HLT.out ad e; omega) 0 _).setCell (fun h ad e => by have := HLT.out ad e; omega) 1 _
            · rw [HMM.out]
              exact (HBW.out.setCell (p := ⟨m, 0, none⟩) (Nat.le_refl _) _).setCell (p := ⟨m, 1, none⟩) (Nat.le_refl _) _
    · intro x c rem' w2 cnt' hpm hrg2 hlt hg2 hs2 hen
      have HB2 := hide (HBK.out.grown hg2 (by intro e; injection e with e; omega))
      have HBW2 := hide (HBW.out.grown hg2 (by rw [← HMM.out]; exact HBW.out.size) (fun j hj => by injection hj with hj; omega))
      have HRG2 := hide hrg2
      clear hrg2 hpm hg2 hs2 HBK HBW HRG
      by_cases hc : c = 0
      · subst hc
        have HLH2 := hide (HLH.out.zero x)
        clear HLH
        go_wp2_with fail
        go_roundw
        case rel => exact ⟨low, high, any, _, rem', cnt', rfl, rfl, rfl, HRG2.out, HLH2.out, HB2.out, HBW2.out, hmr⟩
        case measure => rw [HRG2.out.left_eq, HOR.out]; exact hlt
      · have f : (c == 0) = false := by simpa using hc
        cases any with
        | false =>
          have HLH2 := hide (HLH.out.first x hc)
          clear HLH hc
          go_wp2_with fail
          go_roundw
          case rel => exact ⟨x, x, true, _, rem', cnt', rfl, rfl, rfl, HRG2.out, HLH2.out, HB2.out, HBW2.out, hmr⟩
          case measure => rw [HRG2.out.left_eq, HOR.out]; exact hlt
        | true =>
          have HLH2 := hide (HLH.out.next x hc)
          clear HLH hc
          by_cases h1 : x < low
          · by_cases h2 : high < x
            · rw [if_pos h1, if_pos h2] at HLH2
              go_wp2_with fail
              go_roundw
              case rel => exact ⟨_, _, true, _, rem', cnt', rfl, rfl, rfl, HRG2.out, HLH2.out, HB2.out, HBW2.out, hmr⟩
              case measure => rw [HRG2.out.left_eq, HOR.out]; exact hlt
            · rw [if_pos h1, if_neg h2] at HLH2
              go_wp2_with fail
              go_roundw
              case rel => exact ⟨_, _, true, _, rem', cnt', rfl, rfl, rfl, HRG2.out, HLH2.out, HB2.out, HBW2.out, hmr⟩
              case measure => rw [HRG2.out.left_eq, HOR.out]; exact hlt
          · by_cases h2 : high < x
            · rw [if_neg h1, if_pos h2] at HLH2
              go_wp2_with fail
              go_roundw
              case rel => exact ⟨_, _, true, _, rem', cnt', rfl, rfl, rfl, HRG2.out, HLH2.out, HB2.out, HBW2.out, hmr⟩
              case measure => rw [HRG2.out.left_eq, HOR.out]; exact hlt
            · rw [if_neg h1, if_neg h2] at HLH2
              go_wp2_with fail
              go_roundw
              case rel => exact ⟨_, _, true, _, rem', cnt', rfl, rfl, rfl, HRG2.out, HLH2.out, HB2.out, HBW2.out, hmr⟩
              case measure => rw [HRG2.out.left_eq, HOR.out]; exact hlt
end Go.Proofs.Ytmeicmhojingfaa
/- Maps of terms as values: products, sums, polynomials of them; slices of maps. -/
namespace Go.Proofs.Ytmeicmhojingfaa
set_option linter.unusedVariables false
set_option linter.unusedSimpArgs false
open Go.RowKit

/-- Block b is a map of terms that reads as x, with keys within E. -/
def TV (w : World) (b : Nat) (x : LP) (E : Nat) : Prop := ∃ T, MapI w b T ∧ LP.mk T = x ∧ ∀ p ∈ T, p.1.natAbs ≤ E
theorem TV.lt {w : World} {b : Nat} {x : LP} {E : Nat} (h : TV w b x E) : b < w.heap.size := by obtain ⟨T, h, _⟩ := h; exact h.lt
theorem TV.mono {w : World} {b : Nat} {x : LP} {E E' : Nat} (h : TV w b x E) (he : E ≤ E') : TV w b x E' := by
  obtain ⟨T, h1, h2, h3⟩ := h; exact ⟨T, h1, h2, fun p hp => Nat.le_trans (h3 p hp) he⟩
theorem TV.same {w w' : World} {b : Nat} {x : LP} {E : Nat} (h : TV w b x E) (hb : w'.heap[b]? = w.heap[b]?) : TV w' b x E := by
  obtain ⟨T, h1, h2, h3⟩ := h
  refine ⟨T, ⟨?_, h1.nodup⟩, h2, h3⟩
  obtain ⟨D, ⟨es, clock, hbl, r1⟩, r⟩ := h1.dict.own
  exact ⟨⟨D, ⟨es, clock, hb.trans hbl, r1⟩, r⟩⟩
theorem TV.below {w w' : World} {b : Nat} {x : LP} {E : Nat} (h : TV w b x E) (hb : Below w.heap.size w w') : TV w' b x E := h.same (hb.block b h.lt)
/-- A new map that reads as x. -/
def GivesV (w : World) (x : LP) (E : Nat) (e : Ending) (w' : World) : Prop := ∃ b, e = .returned (.map (some b)) ∧ w.heap.size ≤ b ∧ TV w' b x E ∧ Below w.heap.size w w'
theorem GivesT.v {w : World} {x : LP} {E : Nat} {e : Ending} {w' : World} (h : GivesT w x E e w') : GivesV w x E e w' := by
  obtain ⟨b, o, h1, h2, h3, h4, h5, h6⟩ := h
  exact ⟨b, h1, h2, ⟨o, h3, h4, h5⟩, h6⟩
def CB (x : LP) (V : Nat) : Prop := ∀ k, (LP.co x k).natAbs ≤ V
theorem TV.vals {w : World} {b : Nat} {T : List Tm} (h : MapI w b T) {V : Nat} (hc : CB (LP.mk T) V) : ∀ p ∈ T, p.2.natAbs ≤ V := fun p hp => by
  have h2 := hc p.1
  rw [LP.co_mk, h.val (x := p.1) (c := p.2) hp] at h2
  exact h2
theorem tv_mul {w : World} {a b : Nat} {x y : LP} {Ea Eb Va Vb : Nat} (hx : TV w a x Ea) (hy : TV w b y Eb) (hcx : CB x Va) (hcy : CB y Vb) (hE : Ea + Eb ≤ 400000) (hV : (2 * Ea + 1) * (Va * Vb) ≤ 4000000000000000000) :
    Calls Try.prog 13 #[.map (some a), .map (some b)] w (GivesV w (x * y) (Ea + Eb)) := by
  obtain ⟨S, hs, rfl, hsk⟩ := hx
  obtain ⟨T, ht, rfl, htk⟩ := hy
  refine (tmul_any a b S T Ea Eb (Ea + Eb) Va Vb (Nat.le_refl _) hE (Nat.le_trans (Nat.mul_le_mul_right _ (nodup_leT hs.nodup hsk)) hV) w hs ht hsk htk (TV.vals hs hcx) (TV.vals ht hcy)).mono fun e w' h => h.v
theorem tv_plus {w : World} {a b : Nat} {x y : LP} {E : Nat} (hx : TV w a x E) (hy : TV w b y E) (hcx : CB x 4000000000000000000) (hcy : CB y 4000000000000000000) (hE : E ≤ 400000) :
    Calls Try.prog 37 #[.map (some a), .map (some b), .int .i64 1] w (GivesV w (x + y) E) := by
  obtain ⟨S, hs, rfl, hsk⟩ := hx
  obtain ⟨T, ht, rfl, htk⟩ := hy
  refine (plus_any a b S T 1 (.inl rfl) E hE w hs ht hsk htk (TV.vals hs hcx) (TV.vals ht hcy)).mono fun e w' h => ?_
  rw [LP.term_one, CR.one_mul] at h
  exact h.v
theorem tv_poly {w : World} {b : Nat} {x : LP} {E : Nat} (hx : TV w b x E) (hE : E ≤ 400000) : Calls Try.prog 12 #[.map (some b)] w (GivesP w (LP.canon x).1 (LP.canon x).2) := by
  obtain ⟨T, ht, rfl, htk⟩ := hx
  exact tpoly_any b T E hE w ht htk

end Go.Proofs.Ytmeicmhojingfaa
