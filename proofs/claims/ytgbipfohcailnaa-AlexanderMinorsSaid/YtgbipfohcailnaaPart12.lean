/- Several texts in one. -/
import Derived.Test.YtgbipfohcailnaaPart5
import Derived.Test.YtgbipfohcailnaaPart11
import Derived.Test.YtgbipfohcailnaaPart9
/- timbref1.PolyDet. -/
namespace Go.Proofs.Ytgbipfohcailnaa
set_option linter.unusedVariables false
set_option linter.unusedSimpArgs false
open Go.RowKit

def mtx (xss : List (List LP)) : Mtx LP := fun i j => (xss.getD i []).getD j 0
def pToP (M : Mtx LP) (p : List Nat) : Nat → LP
  | 0 => 1
  | k + 1 => pToP M p k * M k (p.getD k 0)
theorem pToP_drop (M : Mtx LP) (p : List Nat) : ∀ k, k ≤ p.length → pToP M p k * prodP M k (p.drop k) = prodP M 0 p
  | 0, _ => by rw [List.drop_zero]; exact CR.one_mul _
  | k + 1, h => by
    rw [← pToP_drop M p k (by omega), List.drop_eq_getElem_cons (by omega : k < p.length)]
    show pToP M p k * M k (p.getD k 0) * _ = pToP M p k * (M k p[k] * _)
    rw [getD_eq (by omega), CR.mul_assoc]
theorem pToP_all (M : Mtx LP) (p : List Nat) : pToP M p p.length = prodP M 0 p := by
  have h := pToP_drop M p p.length (Nat.le_refl _)
  rw [List.drop_length] at h
  rw [← h]
  exact (CR.mul_one _).symm
def termP (M : Mtx LP) (p : List Nat) : LP := CR.sgR LP (invL p) * prodP M 0 p
def stepP (M : Mtx LP) (s : LP × Nat) (p : List Nat) : LP × Nat := (s.1 + termP M p, s.2 + 1)
theorem foldl_stepP (M : Mtx LP) : ∀ (l : List (List Nat)) (s : LP × Nat), l.foldl (stepP M) s = (s.1 + sumLR (l.map (termP M)), s.2 + l.length)
  | [], s => by
    show s = (s.1 + 0, s.2 + 0)
    rw [CR.add_zero, Nat.add_zero]
  | p :: t, s => by
    show t.foldl (stepP M) (s.1 + termP M p, s.2 + 1) = (s.1 + (termP M p + _), s.2 + (t.length + 1))
    rw [foldl_stepP M t, CR.add_assoc, Nat.add_assoc, Nat.add_comm 1]
theorem sgR_term (k : Nat) : LP.term 0 (sg k) = CR.sgR LP k := by
  unfold sg CR.sgR
  split
  · rfl
  · refine LP.ext fun j => ?_
    rw [LP.co_neg, LP.co_one, LP.co_term]
    split <;> rfl
theorem ePdX : ∀ args w, (callFunc 20 args).run Try.prog w = .ok (.enter 20 args) w := enters (fn := Try.f20) (by kernel_rfl) (by kernel_rfl) (by kernel_rfl)

theorem CB.zero : CB 0 0 := fun k => by rw [LP.co_zero]; exact Nat.le_refl _
end Go.Proofs.Ytgbipfohcailnaa
/- timbref1.Terms.Mul and Plus where the machine's integers run over: all coefficients modulo 2^64. -/
namespace Go.Proofs.Ytgbipfohcailnaa
set_option linter.unusedVariables false
set_option linter.unusedSimpArgs false
open Go.RowKit Go.Maps

/-- Equal but for a multiple of 2^64. -/
def Cg (x y : LP) : Prop := ∃ z, x = y + LP.term 0 18446744073709551616 * z
theorem Cg.refl (x : LP) : Cg x x := ⟨0, by rw [CR.mul_zero, CR.add_zero]⟩
theorem Cg.of {x y : LP} (h : x = y) : Cg x y := h ▸ Cg.refl x
theorem Cg.trans {x y z : LP} (h : Cg x y) (k : Cg y z) : Cg x z := by
  obtain ⟨a, rfl⟩ := h
  obtain ⟨b, rfl⟩ := k
  exact ⟨b + a, by rw [CR.mul_add, CR.add_assoc]⟩
theorem Cg.add {x y x' y' : LP} (h : Cg x y) (k : Cg x' y') : Cg (x + x') (y + y') := by
  obtain ⟨a, rfl⟩ := h
  obtain ⟨b, rfl⟩ := k
  exact ⟨a + b, by rw [CR.mul_add]; ac_rfl⟩
theorem Cg.mul {x y x' y' : LP} (h : Cg x y) (k : Cg x' y') : Cg (x * x') (y * y') := by
  obtain ⟨a, rfl⟩ := h
  obtain ⟨b, rfl⟩ := k
  refine ⟨y * b + (a * y' + a * (LP.term 0 18446744073709551616 * b)), ?_⟩
  rw [CR.add_mul, CR.mul_add, CR.mul_add, CR.mul_add, CR.mul_add]
  ac_rfl
theorem Cg.co {x y : LP} (h : Cg x y) (k : Int) : ∃ t, LP.co x k = LP.co y k + 18446744073709551616 * t := by
  obtain ⟨z, rfl⟩ := h
  exact ⟨LP.co z k, by rw [LP.co_add, LP.co_term_mul, Int.sub_zero]⟩
theorem Cg.eq {x y : LP} (h : Cg x y) (hx : ∀ k, -9223372036854775808 ≤ LP.co x k ∧ LP.co x k < 9223372036854775808) (hy : ∀ k, (LP.co y k).natAbs ≤ 4000000000000000000) : x = y := LP.ext fun k => by
  obtain ⟨t, ht⟩ := h.co k
  have := hx k
  have := hy k
  omega
/-- Coefficients that the machine can hold. -/
def WR (o : List Tm) : Prop := ∀ p ∈ o, -9223372036854775808 ≤ p.2 ∧ p.2 < 9223372036854775808
theorem WR.nil : WR [] := fun p hp => by simp at hp
theorem wrap64_rng (z : Int) : -9223372036854775808 ≤ wrap64 z ∧ wrap64 z < 9223372036854775808 := by unfold wrap64; omega
theorem wrap64_eq (z : Int) : ∃ t, wrap64 z = z + 18446744073709551616 * t := ⟨-((z + 9223372036854775808) / 18446744073709551616), by unfold wrap64; omega⟩
theorem wrap64_two (a c : Int) : ∃ t, wrap64 (a + wrap64 c) = a + (c + 18446744073709551616 * t) := by
  obtain ⟨t, ht⟩ := wrap64_eq c
  obtain ⟨s, hs⟩ := wrap64_eq (a + wrap64 c)
  exact ⟨t + s, by rw [hs, ht]; omega⟩
theorem putT_mem {o : List Tm} {e v : Int} {p : Tm} (h : p ∈ putT o e v) : p ∈ o ∨ p.2 = v := by
  induction o with
  | nil => simp [putT] at h; rw [h]; exact .inr rfl
  | cons q o ih =>
    unfold putT at h
    split at h
    · rcases List.mem_cons.1 h with rfl | h
      · exact .inr rfl
      · exact .inl (List.mem_cons_of_mem _ h)
    · rcases List.mem_cons.1 h with rfl | h
      · exact .inl List.mem_cons_self
      · rcases ih h with h | h
        · exact .inl (List.mem_cons_of_mem _ h)
        · exact .inr h
theorem WR.put {o : List Tm} (h : WR o) (e z : Int) : WR (putT o e (wrap64 z)) := fun p hp => by
  rcases putT_mem hp with hp | hp
  · exact h p hp
  · rw [hp]; exact wrap64_rng z
theorem WR.co {o : List Tm} (h : WR o) (hn : (o.map (·.1)).Nodup) (k : Int) : -9223372036854775808 ≤ LP.co (LP.mk o) k ∧ LP.co (LP.mk o) k < 9223372036854775808 := by
  rw [LP.co_mk, coefT_look hn]
  cases e : lookT o k with
  | none => show -9223372036854775808 ≤ (0 : Int) ∧ (0 : Int) < 9223372036854775808; omega
  | some v => exact h _ (lookT_mem e)
theorem cg_put {o : List Tm} (hn : (o.map (·.1)).Nodup) {y : LP} (h : Cg (LP.mk o) y) (e c v t : Int) (hv : v = coefT o e + (c + 18446744073709551616 * t)) : Cg (LP.mk (putT o e v)) (y + LP.term e c) := by
  rw [putT_mk hn rfl e v _ hv]
  refine h.add ⟨LP.term e t, ?_⟩
  refine LP.ext fun k => ?_
  rw [LP.co_add, LP.co_term_mul, LP.co_term, LP.co_term, LP.co_term, Int.sub_zero]
  split <;> omega
def GivesW (w : World) (x : LP) (E : Nat) (e : Ending) (w' : World) : Prop :=
  ∃ b o, e = .returned (.map (some b)) ∧ w.heap.size ≤ b ∧ MapI w' b o ∧ Cg (LP.mk o) x ∧ WR o ∧ (∀ p ∈ o, p.1.natAbs ≤ E) ∧ Below w.heap.size w w'

set_option maxRecDepth 100000 in
set_option maxHeartbeats 4000000 in
theorem tmulW_any (ba bb : Nat) (ta tb : List Tm) (Ea Eb E : Nat) (hE : Ea + Eb ≤ E) (hE4 : E ≤ 400000) (w : World) (ha : MapI w ba ta) (hb : MapI w bb tb) (hka : ∀ p ∈ ta, p.1.natAbs ≤ Ea) (hkb : ∀ p ∈ tb, p.1.natAbs ≤ Eb) :
    Calls Try.prog 22 #[.map (some ba), .map (some bb)] w (GivesW w (LP.mk ta * LP.mk tb) E) := by
  have hmm := @run_makeMap Try.prog
  have HA := hide ha
  have HB := hide hb
  have HKA := hide hka
  have HKB := hide hkb
  have lba := ha.lt
  have lbb := hb.lt
  clear ha hb hka hkb
  have HW0 := hide ((Below.refl w.heap.size w).alloc (Nat.le_refl _) (.map #[] 0))
  have HM0 := hide (MapI.made w)
  obtain ⟨m, hm⟩ : ∃ m, w.heap.size = m := ⟨_, rfl⟩
  have HMM := hide hm
  clear hm
  go_enter Try.func22, Try.ntmps22
  go_upto_region 2 with fail
  obtain ⟨w0, hw0⟩ : ∃ x, w.alloc (.map #[] 0) = x := ⟨_, rfl⟩
  have hm := HMM.out
  rw [hw0] at HW0 HM0 ⊢
  rw [hm] at HM0 HW0 lba lbb ⊢
  clear hw0 hm
  have l0 : m < w0.heap.size := HM0.out.lt
  go_wp2_with (refine wpList_rangeI _ rfl _ _ rfl ut ba ta rfl (HA.out.below (by rw [HMM.out]; exact HW0.out)) (fun p hp => wfI (by have := HKA.out p hp; omega)) ?_; intro w1 cnt hrg hg1 hs1)
  obtain ⟨r, hr⟩ : ∃ r, w0.heap.size = r := ⟨_, rfl⟩
  rw [hr] at hrg l0 ⊢
  have HM1 := hide (HM0.out.kept hg1 (by simp))
  have HW1 := hide (HW0.out.grown hg1 (by rw [← HMM.out]; exact HW0.out.size) (by simp))
  have HRG := hide hrg
  clear hrg hg1 hs1 HM0 HW0 hr
  go_frame
  go_loopw [6] (fun _ wr => ∃ (o done rem : List Tm) (cnt : Nat), RangeI wr ba r ta done rem cnt ∧ MapI wr m o ∧ Cg (LP.mk o) (LP.mk done * LP.mk tb) ∧ WR o ∧ (∀ p ∈ o, p.1.natAbs ≤ E) ∧ Below m w wr ∧ m < r) (fun _ wr => wr.rangeLeft ba r)
  case atStart => exact ⟨[], [], ta, cnt, HRG.out, HM1.out, Cg.refl _, WR.nil, by simp, HW1.out, l0⟩
  case round =>
    clear HRG HM1 HW1 l0
    obtain ⟨o, done, rem, cnt, hrg, hmo, ho, hwo, hke, hbw, hmr⟩ := hrel
    have HWO := hide hwo
    clear hwo
    have HMO := hide hmo
    have HO := hide ho
    have HKE := hide hke
    have HBW := hide hbw
    have HRG := hide hrg
    have hor := hrg.left_eq
    have HOR := hide hor
    clear hmo ho hke hbw hrg hor
    go_wp2_with (refine wpList_nextI _ rfl _ rfl ba r ta done rem cnt rfl HRG.out ?_ ?_)
    · intro hrem
      subst hrem
      have HO2 : Hid (Cg (LP.mk o) (LP.mk ta * LP.mk tb)) := hide (by rw [← mk_perm HRG.out.all]; exact HO.out)
      clear HRG HOR HO
      go_wp2_with fail
      go_ret
      exact ⟨m, o, rfl, by rw [HMM.out]; exact Nat.le_refl _, HMO.out, HO2.out, HWO.out, HKE.out, by rw [HMM.out]; exact HBW.out⟩
    · intro x c rem' w2 cnt' hpm hrg2 hlt hg2 hs2 hen
      have hfr := hrg2.fresh
      have hxE := HKA.out _ hfr.2
      simp only at hxE
      have HMO2 := hide (HMO.out.kept hg2 (by intro e; injection e with e; omega))
      have HBW2 := hide (HBW.out.grown hg2 (by rw [← HMM.out]; exact HBW.out.size) (fun j hj => by injection hj with hj; omega))
      have HRG2 := hide hrg2
      have HX := hide hxE
      clear hrg2 hfr hpm hg2 hs2 hxE HMO HBW HRG
      go_upto_region 5 with fail
      clear hen
      have l2 : m < w2.heap.size := HMO2.out.lt
      have lr2 : r < w2.heap.size := HRG2.out.lt
      go_wp2_with (refine wpList_rangeI _ rfl _ _ rfl ut bb tb rfl (HB.out.below (by rw [HMM.out]; exact HBW2.out)) (fun p hp => wfI (by have := HKB.out p hp; omega)) ?_; intro w3 cnt3 hrg hg3 hs3)
      obtain ⟨r2, hr2⟩ : ∃ r, w2.heap.size = r := ⟨_, rfl⟩
      rw [hr2] at hrg l2 lr2 ⊢
      have HM3 := hide (HMO2.out.kept hg3 (by simp))
      have HW3 := hide (HBW2.out.grown hg3 (by rw [← HMM.out]; exact HBW2.out.size) (by simp))
      have HQ3 := hide (HRG2.out.kept hg3 (by simp) (by simp))
      have HRG3 := hide hrg
      clear hrg hg3 hs3 HMO2 HBW2 hr2 HRG2
      go_frame
      rename World => wo
      go_loopw [8] (fun _ wr => ∃ (o doneB rem : List Tm) (cnt : Nat), RangeI wr bb r2 tb doneB rem cnt ∧ RangeI wr ba r ta (done ++ [(x, c)]) rem' cnt' ∧ MapI wr m o ∧ Cg (LP.mk o) (LP.mk done * LP.mk tb + LP.term x c * LP.mk doneB) ∧ WR o ∧ (∀ p ∈ o, p.1.natAbs ≤ E) ∧ Below m w wr) (fun _ wr => wr.rangeLeft bb r2)
      case atStart => exact ⟨o, [], tb, cnt3, HRG3.out, HQ3.out, HM3.out, by show Cg _ (_ + LP.term x c * (0 : LP)); rw [CR.mul_zero, CR.add_zero]; exact HO.out, HWO.out, HKE.out, HW3.out⟩
      case round =>
        clear HRG3 HM3 HW3 HQ3 HKE HO HWO
        obtain ⟨o, doneB, rem, cntB, hrg, hqq, hmo, ho, hwo, hke, hbw⟩ := hrel
        have HWO := hide hwo
        clear hwo
        have HMO := hide hmo
        have HO := hide ho
        have HKE := hide hke
        have HBW := hide hbw
        have HRG := hide hrg
        have HQQ := hide hqq
        have hor := hrg.left_eq
        have HOR2 := hide hor
        clear hmo ho hke hbw hrg hor hqq
        go_wp2_with (refine wpList_nextI _ rfl _ rfl bb r2 tb doneB rem cntB rfl HRG.out ?_ ?_)
        · intro hrem
          subst hrem
          have HO2 : Hid (Cg (LP.mk o) (LP.mk (done ++ [(x, c)]) * LP.mk tb)) := hide (by rw [LP.mk_snoc, CR.add_mul, ← mk_perm HRG.out.all]; rw [mk_perm HRG.out.all] at HO ⊢; exact HO.out)
          clear HRG HOR2 HO
          go_wp2_with fail
          go_roundw
          case rel => exact ⟨o, _, rem', cnt', HQQ.out, HMO.out, HO2.out, HWO.out, HKE.out, HBW.out, hmr⟩
          case measure => rw [HQQ.out.left_eq, HOR.out]; exact hlt
        · intro y d rem'' w4 cnt'' hpm hrg2 hlt2 hg2 hs2 hen
          have hfr := hrg2.fresh
          have hyE := HKB.out _ hfr.2
          simp only at hyE
          have HMO2 := hide (HMO.out.kept hg2 (by intro e; injection e with e; omega))
          have HQQ2 := hide (HQQ.out.kept hg2 (by intro e; injection e with e; omega) (by intro e; injection e with e; omega))
          have HBW2 := hide (HBW.out.grown hg2 (by rw [← HMM.out]; exact HBW.out.size) (fun j hj => by injection hj with hj; omega))
          obtain ⟨tt, htt⟩ := wrap64_two (coefT o (x + y)) (c * d)
          have HO3 : Hid (Cg (LP.mk (putT o (x + y) (wrap64 (coefT o (x + y) + wrap64 (c * d))))) (LP.mk done * LP.mk tb + LP.term x c * LP.mk (doneB ++ [(y, d)]))) := hide (by
            rw [LP.mk_snoc, LP.term_mul_snoc2, ← CR.add_assoc]
            exact cg_put HMO.out.nodup HO.out _ _ _ tt htt)
          clear htt
          have HW3 := hide (HWO.out.put (x + y) (coefT o (x + y) + wrap64 (c * d)))
          have hx1 := HX.out
          obtain ⟨a0, ha0⟩ : ∃ a, coefT o (x + y) = a := ⟨_, rfl⟩
          obtain ⟨z0, hz0⟩ : ∃ a, x + y = a := ⟨_, rfl⟩
          have hza : z0.natAbs ≤ E := by omega
          rw [ha0] at HO3 HW3
          rw [hz0] at ha0 HO3 HW3
          have hwx : wrap64 (x + y) = z0 := by rw [hz0]; exact wrap64_small (by omega)
          have hle : o.length < 1000000 := Nat.lt_of_le_of_lt (nodup_leT HMO.out.nodup HKE.out) (by omega)
          have HWF := hide (wfI (x := z0) (by omega))
          have HKE2 : Hid (∀ p ∈ putT o z0 (wrap64 (a0 + wrap64 (c * d))), p.1.natAbs ≤ E) := hide (fun p hp => by
            rcases putT_keys _ _ _ p hp with h | h
            · exact HKE.out p h
            · rw [h]; exact hza)
          have HRG2 := hide hrg2
          have HCO := hide ha0
          clear hrg2 hfr hpm hg2 hs2 hyE ha0 hz0 hx1 hza
          go_wp2_with (first
            | ((with_reducible show wpList _ _ _ (Oper.mk _ (.lookup _ _ _ _) _ _ _ _ :: _) _ _); refine wpList_lookI _ rfl _ _ _ rfl ut m o z0 rfl HMO2.out (by simp only [hwx]; rfl) HWF.out ?_; rw [HCO.out])
            | ((with_reducible show wpList _ _ _ (Oper.mk _ (.mapUpdate _ _ _ _) _ _ _ _ :: _) _ _); refine wpList_putI _ rfl _ _ _ _ rfl ut m o z0 _ rfl HMO2.out hle rfl rfl HWF.out ?_; intro w9 hm9 hg9 hs9))
          have HM9 := hide hm9
          have HRG9 := hide (HRG2.out.kept hg9 (by intro e; injection e with e; omega) (by intro e; injection e with e; omega))
          have HQQ9 := hide (HQQ2.out.kept hg9 (by intro e; injection e with e; omega) (by intro e; injection e with e; omega))
          have HBW9 := hide (HBW2.out.grown hg9 (by rw [← HMM.out]; exact HBW2.out.size) (fun j hj => by injection hj with hj; omega))
          clear hg9 hs9 hen hm9 hle hwx
          go_frame
          go_roundw
          case rel => exact ⟨_, _, rem'', cnt'', HRG9.out, HQQ9.out, HM9.out, HO3.out, HW3.out, HKE2.out, HBW9.out⟩
          case measure => rw [HRG9.out.left_eq, HOR2.out]; exact hlt2

set_option maxRecDepth 100000 in
set_option maxHeartbeats 4000000 in
theorem plusW_any (ba bb : Nat) (ta tb : List Tm) (k : Int) (E : Nat) (hE : E ≤ 400000) (w : World) (ha : MapI w ba ta) (hb : MapI w bb tb) (hka : ∀ p ∈ ta, p.1.natAbs ≤ E) (hkb : ∀ p ∈ tb, p.1.natAbs ≤ E) :
    Calls Try.prog 23 #[.map (some ba), .map (some bb), .int .i64 k] w (GivesW w (LP.mk ta + LP.term 0 k * LP.mk tb) E) := by
  have hmm := @run_makeMap Try.prog
  have HA := hide ha
  have HB := hide hb
  have HKA := hide hka
  have HKB := hide hkb
  have lba := ha.lt
  have lbb := hb.lt
  clear ha hb hka hkb
  have HW0 := hide ((Below.refl w.heap.size w).alloc (Nat.le_refl _) (.map #[] 0))
  have HM0 := hide (MapI.made w)
  obtain ⟨m, hm⟩ : ∃ m, w.heap.size = m := ⟨_, rfl⟩
  have HMM := hide hm
  clear hm
  go_enter Try.func23, Try.ntmps23
  go_upto_region 2 with fail
  obtain ⟨w0, hw0⟩ : ∃ x, w.alloc (.map #[] 0) = x := ⟨_, rfl⟩
  rw [hw0] at HW0 HM0 ⊢
  have hm := HMM.out
  rw [hm] at HM0 HW0 lba lbb ⊢
  clear hw0 hm
  have l0 : m < w0.heap.size := HM0.out.lt
  go_wp2_with (refine wpList_rangeI _ rfl _ _ rfl ut ba ta rfl (HA.out.below (by rw [HMM.out]; exact HW0.out)) (fun p hp => wfI (by have := HKA.out p hp; omega)) ?_; intro w1 cnt hrg hg1 hs1)
  obtain ⟨r, hr⟩ : ∃ r, w0.heap.size = r := ⟨_, rfl⟩
  rw [hr] at hrg l0 ⊢
  have HM1 := hide (HM0.out.kept hg1 (by simp))
  have HW1 := hide (HW0.out.grown hg1 (by rw [← HMM.out]; exact HW0.out.size) (by simp))
  have HRG := hide hrg
  clear hrg hg1 hs1 HM0 HW0 hr
  go_frame
  go_loopw [8] (fun _ wr => ∃ (o done rem : List Tm) (cnt : Nat), RangeI wr ba r ta done rem cnt ∧ MapI wr m o ∧ Cg (LP.mk o) (LP.mk done) ∧ WR o ∧ (∀ p ∈ o, p.1.natAbs ≤ E) ∧ Below m w wr ∧ m < r) (fun _ wr => wr.rangeLeft ba r)
  case atStart => exact ⟨[], [], ta, cnt, HRG.out, HM1.out, Cg.refl _, WR.nil, by simp, HW1.out, l0⟩
  case round =>
    clear HRG HM1 HW1 l0
    obtain ⟨o, done, rem, cnt, hrg, hmo, ho, hwo, hke, hbw, hmr⟩ := hrel
    have HWO := hide hwo
    clear hwo
    have HMO := hide hmo
    have HO := hide ho
    have HKE := hide hke
    have HBW := hide hbw
    have HRG := hide hrg
    have hor := hrg.left_eq
    have HOR := hide hor
    clear hmo ho hke hbw hrg hor
    go_wp2_with (refine wpList_nextI _ rfl _ rfl ba r ta done rem cnt rfl HRG.out ?_ ?_)
    · intro hrem
      subst hrem
      have HO2 : Hid (Cg (LP.mk o) (LP.mk ta)) := hide (by rw [← mk_perm HRG.out.all]; exact HO.out)
      have lm : m < wr.heap.size := HMO.out.lt
      clear HRG HOR HO
      go_upto_region 6 with fail
      go_wp2_with (refine wpList_rangeI _ rfl _ _ rfl ut bb tb rfl (HB.out.below (by rw [HMM.out]; exact HBW.out)) (fun p hp => wfI (by have := HKB.out p hp; omega)) ?_; intro w3 cnt3 hrg hg3 hs3)
      obtain ⟨r2, hr2⟩ : ∃ r, wr.heap.size = r := ⟨_, rfl⟩
      rw [hr2] at hrg lm ⊢
      have HM3 := hide (HMO.out.kept hg3 (by simp))
      have HW3 := hide (HBW.out.grown hg3 (by rw [← HMM.out]; exact HBW.out.size) (by simp))
      have HRG3 := hide hrg
      clear hrg hg3 hs3 HMO HBW hr2
      go_frame
      go_loopw [10] (fun _ wr => ∃ (o done rem : List Tm) (cnt : Nat), RangeI wr bb r2 tb done rem cnt ∧ MapI wr m o ∧ Cg (LP.mk o) (LP.mk ta + LP.term 0 k * LP.mk done) ∧ WR o ∧ (∀ p ∈ o, p.1.natAbs ≤ E) ∧ Below m w wr ∧ m < r2) (fun _ wr => wr.rangeLeft bb r2)
      case atStart => exact ⟨o, [], tb, cnt3, HRG3.out, HM3.out, by show Cg _ (_ + LP.term 0 k * (0 : LP)); rw [CR.mul_zero, CR.add_zero]; exact HO2.out, HWO.out, HKE.out, HW3.out, lm⟩
      case round =>
        clear HRG3 HM3 HW3 lm HO2 HKE HWO
        obtain ⟨o, done, rem, cnt, hrg, hmo, ho, hwo, hke, hbw, hmr⟩ := hrel
        have HWO := hide hwo
        clear hwo
        have HMO := hide hmo
        have HO := hide ho
        have HKE := hide hke
        have HBW := hide hbw
        have HRG := hide hrg
        have hor := hrg.left_eq
        have HOR := hide hor
        clear hmo ho hke hbw hrg hor
        go_wp2_with (refine wpList_nextI _ rfl _ rfl bb r2 tb done rem cnt rfl HRG.out ?_ ?_)
        · intro hrem
          subst hrem
          have HO2 : Hid (Cg (LP.mk o) (LP.mk ta + LP.term 0 k * LP.mk tb)) := hide (by rw [← mk_perm HRG.out.all]; exact HO.out)
          clear HRG HOR HO
          go_wp2_with fail
          go_ret
          exact ⟨m, o, rfl, by rw [HMM.out]; exact Nat.le_refl _, HMO.out, HO2.out, HWO.out, HKE.out, by rw [HMM.out]; exact HBW.out⟩
        · intro x c rem' w2 cnt' hpm hrg2 hlt hg2 hs2 hen
          have hfr := hrg2.fresh
          have hxE := HKB.out _ hfr.2
          simp only at hxE
          have HMO2 := hide (HMO.out.kept hg2 (by intro e; injection e with e; omega))
          have HBW2 := hide (HBW.out.grown hg2 (by rw [← HMM.out]; exact HBW.out.size) (fun j hj => by injection hj with hj; omega))
          obtain ⟨tt, htt⟩ := wrap64_two (coefT o x) (k * c)
          have HO3 : Hid (Cg (LP.mk (putT o x (wrap64 (coefT o x + wrap64 (k * c))))) (LP.mk ta + LP.term 0 k * LP.mk (done ++ [(x, c)]))) := hide (by
            rw [LP.mk_snoc, LP.term_mul_snoc, ← CR.add_assoc]
            exact cg_put HMO.out.nodup HO.out _ _ _ tt htt)
          clear htt
          have HW3 := hide (HWO.out.put x (coefT o x + wrap64 (k * c)))
          obtain ⟨a0, ha0⟩ : ∃ a, coefT o x = a := ⟨_, rfl⟩
          rw [ha0] at HO3 HW3
          have hle : o.length < 1000000 := Nat.lt_of_le_of_lt (nodup_leT HMO.out.nodup HKE.out) (by omega)
          have HWF := hide (wfI (x := x) (by omega))
          have HKE2 : Hid (∀ p ∈ putT o x (wrap64 (a0 + wrap64 (k * c))), p.1.natAbs ≤ E) := hide (fun p hp => by
            rcases putT_keys _ _ _ p hp with h | h
            · exact HKE.out p h
            · rw [h]; exact hxE)
          have HRG2 := hide hrg2
          have HCO := hide ha0
          clear hrg2 hfr hpm hg2 hs2 hxE ha0
          go_wp2_with (first
            | ((with_reducible show wpList _ _ _ (Oper.mk _ (.lookup _ _ _ _) _ _ _ _ :: _) _ _); refine wpList_lookI _ rfl _ _ _ rfl ut m o x rfl HMO2.out rfl HWF.out ?_; rw [HCO.out])
            | ((with_reducible show wpList _ _ _ (Oper.mk _ (.mapUpdate _ _ _ _) _ _ _ _ :: _) _ _); refine wpList_putI _ rfl _ _ _ _ rfl ut m o x _ rfl HMO2.out hle rfl rfl HWF.out ?_; intro w9 hm9 hg9 hs9))
          have HM9 := hide hm9
          have HRG9 := hide (HRG2.out.kept hg9 (by intro e; injection e with e; omega) (by intro e; injection e with e; omega))
          have HBW9 := hide (HBW2.out.grown hg9 (by rw [← HMM.out]; exact HBW2.out.size) (fun j hj => by injection hj with hj; omega))
          clear hg9 hs9 hen hm9 hle
          go_frame
          go_wp2_with fail
          go_roundw
          case rel => exact ⟨_, _, rem', cnt', HRG9.out, HM9.out, HO3.out, HW3.out, HKE2.out, HBW9.out, hmr⟩
          case measure => rw [HRG9.out.left_eq, HOR.out]; exact hlt
    · intro x c rem' w2 cnt' hpm hrg2 hlt hg2 hs2 hen
      have hfr := hrg2.fresh
      have hxE := HKA.out _ hfr.2
      simp only at hxE
      have HMO2 := hide (HMO.out.kept hg2 (by intro e; injection e with e; omega))
      have HBW2 := hide (HBW.out.grown hg2 (by rw [← HMM.out]; exact HBW.out.size) (fun j hj => by injection hj with hj; omega))
      obtain ⟨tt, htt⟩ : ∃ t, wrap64 (coefT o x + c) = coefT o x + (c + 18446744073709551616 * t) := by
        obtain ⟨s, hs⟩ := wrap64_eq (coefT o x + c)
        exact ⟨s, by rw [hs]; omega⟩
      have HO3 : Hid (Cg (LP.mk (putT o x (wrap64 (coefT o x + c)))) (LP.mk (done ++ [(x, c)]))) := hide (by
        rw [LP.mk_snoc]
        exact cg_put HMO.out.nodup HO.out _ _ _ tt htt)
      clear htt
      have HW3 := hide (HWO.out.put x (coefT o x + c))
      obtain ⟨a0, hco⟩ : ∃ a, coefT o x = a := ⟨_, rfl⟩
      rw [hco] at HO3 HW3
      have hle : o.length < 1000000 := Nat.lt_of_le_of_lt (nodup_leT HMO.out.nodup HKE.out) (by omega)
      have HWF := hide (wfI (x := x) (by omega))
      have HKE2 : Hid (∀ p ∈ putT o x (wrap64 (a0 + c)), p.1.natAbs ≤ E) := hide (fun p hp => by
        rcases putT_keys _ _ _ p hp with h | h
        · exact HKE.out p h
        · rw [h]; exact hxE)
      have HRG2 := hide hrg2
      have HCO := hide hco
      clear hrg2 hfr hpm hg2 hs2 hco hxE
      go_wp2_with (first
        | ((with_reducible show wpList _ _ _ (Oper.mk _ (.lookup _ _ _ _) _ _ _ _ :: _) _ _); refine wpList_lookI _ rfl _ _ _ rfl ut m o x rfl HMO2.out rfl HWF.out ?_; rw [HCO.out])
        | ((with_reducible show wpList _ _ _ (Oper.mk _ (.mapUpdate _ _ _ _) _ _ _ _ :: _) _ _); refine wpList_putI _ rfl _ _ _ _ rfl ut m o x _ rfl HMO2.out hle rfl rfl HWF.out ?_; intro w9 hm9 hg9 hs9))
      have HM9 := hide hm9
      have HRG9 := hide (HRG2.out.kept hg9 (by intro e; injection e with e; omega) (by intro e; injection e with e; omega))
      have HBW9 := hide (HBW2.out.grown hg9 (by rw [← HMM.out]; exact HBW2.out.size) (fun j hj => by injection hj with hj; omega))
      clear hg9 hs9 hen hm9 hle
      go_frame
      go_wp2_with fail
      go_roundw
      case rel => exact ⟨_, _, rem', cnt', HRG9.out, HM9.out, HO3.out, HW3.out, HKE2.out, HBW9.out, hmr⟩
      case measure => rw [HRG9.out.left_eq, HOR.out]; exact hlt
end Go.Proofs.Ytgbipfohcailnaa
/- timbref1.PolyDet where the machine's integers run over. -/
namespace Go.Proofs.Ytgbipfohcailnaa
set_option linter.unusedVariables false
set_option linter.unusedSimpArgs false
open Go.RowKit

/-- A Terms value that reads as x but for multiples of 2^64. -/
def TVW (w : World) (b : Nat) (x : LP) (E : Nat) : Prop := ∃ T, MapI w b T ∧ Cg (LP.mk T) x ∧ WR T ∧ ∀ p ∈ T, p.1.natAbs ≤ E
theorem TVW.mono {w : World} {b : Nat} {x : LP} {E E' : Nat} (h : TVW w b x E) (he : E ≤ E') : TVW w b x E' := by
  obtain ⟨T, h1, h2, h3, h4⟩ := h
  exact ⟨T, h1, h2, h3, fun p hp => Nat.le_trans (h4 p hp) he⟩
theorem TVW.same {w w' : World} {b : Nat} {x : LP} {E : Nat} (h : TVW w b x E) (hb : w'.heap[b]? = w.heap[b]?) : TVW w' b x E := by
  obtain ⟨T, h1, h2, h3, h4⟩ := h
  refine ⟨T, ⟨?_, h1.nodup⟩, h2, h3, h4⟩
  obtain ⟨D, ⟨es, clock, hbl, r1⟩, r⟩ := h1.dict.own
  exact ⟨⟨D, ⟨es, clock, hb.trans hbl, r1⟩, r⟩⟩
theorem TVW.lt {w : World} {b : Nat} {x : LP} {E : Nat} (h : TVW w b x E) : b < w.heap.size := by obtain ⟨T, h, _⟩ := h; exact h.lt
theorem TVW.below {w w' : World} {b : Nat} {x : LP} {E : Nat} (h : TVW w b x E) (hb : Below w.heap.size w w') : TVW w' b x E := h.same (hb.block b h.lt)
def GivesVW (w : World) (x : LP) (E : Nat) (e : Ending) (w' : World) : Prop := ∃ b, e = .returned (.map (some b)) ∧ w.heap.size ≤ b ∧ TVW w' b x E ∧ Below w.heap.size w w'
theorem tvw_mul {w : World} {a b : Nat} {x y : LP} {Ea Eb : Nat} (hx : TVW w a x Ea) (hy : TV w b y Eb) (hE : Ea + Eb ≤ 400000) : Calls Try.prog 22 #[.map (some a), .map (some b)] w (GivesVW w (x * y) (Ea + Eb)) := by
  obtain ⟨ta, h1, h2, h3, h4⟩ := hx
  obtain ⟨tb, k1, rfl, k3⟩ := hy
  refine (tmulW_any a b ta tb Ea Eb (Ea + Eb) (Nat.le_refl _) hE w h1 k1 h4 k3).mono ?_
  rintro e w' ⟨d, o, rfl, hd, hm, hc, hw, hk, hb⟩
  exact ⟨d, rfl, hd, ⟨o, hm, hc.trans (h2.mul (Cg.refl _)), hw, hk⟩, hb⟩
theorem tvw_plus {w : World} {a b : Nat} {x y : LP} {E : Nat} (hx : TVW w a x E) (hy : TVW w b y E) (hE : E ≤ 400000) : Calls Try.prog 23 #[.map (some a), .map (some b), .int .i64 1] w (GivesVW w (x + y) E) := by
  obtain ⟨ta, h1, h2, h3, h4⟩ := hx
  obtain ⟨tb, k1, k2, k3, k4⟩ := hy
  refine (plusW_any a b ta tb 1 E hE w h1 k1 h4 k4).mono ?_
  rintro e w' ⟨d, o, rfl, hd, hm, hc, hw, hk, hb⟩
  refine ⟨d, rfl, hd, ⟨o, hm, ?_, hw, hk⟩, hb⟩
  rw [show LP.term 0 1 * LP.mk tb = LP.mk tb from CR.one_mul _] at hc
  exact hc.trans (h2.add k2)
/-- If the value is small after all, it is exact. -/
theorem TVW.tv {w : World} {b : Nat} {x : LP} {E : Nat} (h : TVW w b x E) (hx : ∀ k, (LP.co x k).natAbs ≤ 4000000000000000000) : TV w b x E := by
  obtain ⟨T, h1, h2, h3, h4⟩ := h
  exact ⟨T, h1, h2.eq (fun k => h3.co h1.nodup k) hx, h4⟩
/-- The matrix as it came in, and the sum of the terms so far. -/
structure PJW (w0 : World) (g bm : Nat) (A : Option Addr) (n c : Nat) (s : LP × Nat) (w : World) : Prop where
  below : Below w0.heap.size w0 w
  sum : ∃ b, Blk w g 34 #[.map (some b)] ∧ TVW w b s.1 200 ∧ w0.heap.size ≤ b
  box : Blk w bm 36 #[.slice A n c]

set_option maxRecDepth 100000 in
set_option maxHeartbeats 8000000 in
theorem pdetW_visit (w0 : World) (g bm : Nat) (A : Option Addr) (n c : Nat) (xss : List (List LP)) (hm : Rd (QS (QT 40) 1) 1 w0 A n c xss) (hg : w0.heap.size ≤ g) (hne : bm ≠ g) (hsq : ∀ i, i < n → (xss.getD i []).length = n) (hn : n ≤ 5) :
    VisitL Try.prog 20 [.pointer (some ⟨bm, 0, none⟩), .pointer (some ⟨g, 0, none⟩)] g (LP × Nat) (PJW w0 g bm A n c) (fun p => p.Perm (List.range n)) (fun _ => True) (stepP (mtx xss)) := by
  refine ⟨fun s w w' h hb => ?_, fun s w h => ?_, fun s p h => trivial, ?_⟩
  · obtain ⟨b, h1, h2, h3⟩ := h.sum
    exact ⟨h.below.trans (hb.mono h.below.size), ⟨b, h1.below hb h1.lt, h2.below hb, h3⟩, h.box.below hb h.box.lt⟩
  · obtain ⟨b, h1, h2, h3⟩ := h.sum
    exact h1.lt
  intro p A1 n1 c1 s w hp _ hperm hJ hlim
  have hlen := hp.il.len
  rw [zs_length] at hlen
  have hpn : p.length = n := by have := hperm.length_eq; simpa using this
  obtain rfl : n1 = n := by omega
  obtain ⟨hiP, _⟩ := isP_of_perm hperm
  have hpx : ∀ k, k < n1 → p.getD k 0 < n1 := fun k hk => by have := hiP.lt (j := k) (by omega); omega
  have HPX := hide hpx
  have HPAR := hide (parity_ok A1 n1 c1 p _ (hp.il.below ((Below.refl w.heap.size w).alloc (Nat.le_refl _) (.map #[] 0))) (by omega))
  have HSG : Hid (parTo p n1 = sg (invL p)) := hide (by rw [← hlen]; exact par_sg p)
  have HALL : Hid (pToP (mtx xss) p n1 = prodP (mtx xss) 0 p) := hide (by rw [← hlen]; exact pToP_all _ p)
  have HM := hide hm
  have HSQ := hide hsq
  have HP := hide hp
  have HJ := hide hJ
  have hg' := hg
  have hmm := @run_makeMap Try.prog
  have HB0 := hide ((Below.refl w.heap.size w).alloc (Nat.le_refl _) (.map #[] 0))
  have HM0 := hide (MapI.made w)
  clear hm hsq hp hJ hlen hpn hiP hpx hperm hlim
  go_enter Try.func20, Try.ntmps20
  go_wp2_with fail
  refine HPAR.out.mono ?_
  rintro e w1 ⟨rfl, hb1⟩
  rw [HSG.out]
  have HB1 := hide (HB0.out.trans (hb1.mono HB0.out.size))
  have HM1 := hide (HM0.out.below hb1)
  clear hb1 HPAR HM0 HB0
  have hs1 : (Lit.int .i64 (sg (invL p))).wf = true := by unfold sg; split <;> decide
  go_wp2_with ((with_reducible show wpList _ _ _ (Oper.mk _ (.insert _ _ _ _) _ _ _ _ :: _) _ _); refine wpList_insI _ rfl _ _ _ _ rfl ut w.heap.size [] 0 (sg (invL p)) rfl HM1.out (by simp) rfl rfl (by decide) ?_; intro w2 hm2 hg2 hs2)
  have HT2 : Hid (TVW w2 w.heap.size (LP.term 0 (sg (invL p)) * pToP (mtx xss) p 0) (40 * 0)) := hide ⟨_, hm2, Cg.of (by
    show LP.mk [(0, sg (invL p))] = LP.term 0 (sg (invL p)) * 1
    rw [CR.mul_one]; rfl), by intro q hq; simp [putT] at hq; rw [hq]; unfold sg; split <;> omega, by simp [putT]⟩
  have HB2 := hide (HB1.out.grown hg2 HB1.out.size (fun j hj => by injection hj with hj; omega))
  clear hm2 hg2 hs2 HM1 HB1
  go_loopw [4, 13] (fun xv iv wr => ∃ (k b : Nat), iv = .int .i64 k ∧ k ≤ n1 ∧ xv = .map (some b) ∧ Hid (TVW wr b (LP.term 0 (sg (invL p)) * pToP (mtx xss) p k) (40 * k)) ∧ Hid (Below w.heap.size w wr)) (fun _ iv _ => n1 - (intOf iv).toNat)
  case atStart => exact ⟨0, w.heap.size, rfl, Nat.zero_le _, rfl, HT2, HB2⟩
  case round =>
    clear HB2 HT2
    obtain ⟨k, b, rfl, hk, rfl, HT, HB⟩ := hrel
    by_cases hlt : k < n1
    · have HB0 := hide (HJ.out.below.trans (HB.out.mono HJ.out.below.size))
      have hbx : wr.cell? ⟨bm, 0, none⟩ = some (.slice A n1 c) := by
        have h := (HJ.out.box.below HB.out HJ.out.box.lt).cell 0
        simpa using h
      obtain ⟨ad, v, rfl, hrow, B, m, d, e2, hsl⟩ := (HM.out.below (QS_ok (QT_ok 40) 1) HB0.out).at1 hlt
      injection e2 with e2
      subst e2
      have hkl : k < xss.length := by rw [HM.out.len]; exact hlt
      have hrl : xss[k].length = n1 := by
        have h := HSQ.out k hlt
        rw [show xss.getD k [] = xss[k] by simp [List.getD, List.getElem?_eq_getElem hkl]] at h
        exact h
      have hmn : m = n1 := by rw [← hsl.len]; exact hrl
      subst hmn
      have hq := HPX.out k hlt
      obtain ⟨pd, hA1, hpc⟩ := (HP.out.below HB.out).il.at_ hlt
      rw [zs_getD] at hpc
      obtain ⟨bd, v, hB', hcl, b2, e2, _, htv⟩ := hsl.at1 hq
      injection e2 with e2
      subst e2
      subst hA1
      subst hB'
      have HY : Hid (TV wr b2 (mtx xss k (p.getD k 0)) 40) := hide (by
        have e : mtx xss k (p.getD k 0) = xss[k][p.getD k 0]'(by rw [hrl]; exact hq) := by
          unfold mtx
          simp [List.getD, List.getElem?_eq_getElem hkl, List.getElem?_eq_getElem (show (p[k]?.getD 0) < xss[k].length from by rw [hrl]; exact hq)]
        rw [e]; exact htv)
      have HST : Hid (pToP (mtx xss) p (k + 1) = pToP (mtx xss) p k * mtx xss k (p.getD k 0)) := rfl
      clear htv hsl hrl hkl
      generalize p.getD k 0 = q at *
      have HC := hide (tvw_mul HT.out HY.out (by omega))
      go_wp2_with fail
      refine HC.out.mono ?_
      rintro e w3 ⟨b3, rfl, hb3, ht3, hbl⟩
      have HT3 := hide ht3
      have HB3 := hide (HB.out.trans (hbl.mono HB.out.size))
      clear hb3 ht3 hbl hrow hcl hpc hbx HC
      go_wp2_with fail
      go_roundw
      case rel => exact ⟨k + 1, b3, by go_num, by omega, rfl, by rw [HST.out, ← CR.mul_assoc]; exact hide (HT3.out.mono (by omega)), HB3⟩
      case measure => simp [intOf]; omega
    · have hkn : k = n1 := by omega
      have HTP : Hid (LP.term 0 (sg (invL p)) * pToP (mtx xss) p k = termP (mtx xss) p) := hide (by rw [hkn, HALL.out, sgR_term]; rfl)
      rw [HTP.out] at HT
      obtain ⟨bs, hs1, hs2, _⟩ := HJ.out.sum
      have HBS := hide (hs1.below HB.out hs1.lt)
      have HTS := hide (hs2.below HB.out)
      have HC := hide (tvw_plus HTS.out (HT.out.mono (show 40 * k ≤ 200 by omega)) (by omega))
      have hsum := HBS.out.cell 0
      have hsf := HBS.out.frozen 0
      simp at hsum
      clear hs1 hs2 hkn
      go_wp2_with fail
      refine HC.out.mono ?_
      rintro e w3 ⟨b3, rfl, hb3, ht3, hbl⟩
      have HBG := hide (HBS.out.below hbl HBS.out.lt)
      have HB3 := hide (HB.out.trans (hbl.mono HB.out.size))
      have HT3 := hide ht3
      have hsum := HBG.out.cell 0
      have hsf := HBG.out.frozen 0
      simp at hsum
      have hlt3 := HBG.out.lt
      have hne3 : b3 ≠ g := by have := HBS.out.lt; omega
      have HF3 : Hid (w0.heap.size ≤ b3) := hide (by have := HJ.out.below.size; have := HB.out.size; omega)
      clear hb3 ht3 hbl
      go_wp2_with fail
      go_returns
      refine ⟨rfl, ⟨?_, ⟨b3, ?_, ?_, HF3.out⟩, ?_⟩, (grownBy_of_below HB3.out (some g)).trans (grownBy_set1 w3 g 0 _)⟩
      · exact (HJ.out.below.trans (HB3.out.mono HJ.out.below.size)).setCell hg' _
      · have h := HBG.out.set_ 0 (.map (some b3))
        simpa using h
      · exact HT3.out.same (Below.heap_setCell w3 ⟨g, 0, none⟩ (.map (some b3)) b3 hne3)
      · exact (HJ.out.box.below HB3.out HJ.out.box.lt).far hne _

set_option maxRecDepth 100000 in
set_option maxHeartbeats 4000000 in
theorem polyDetW_any (A : Option Addr) (n c : Nat) (xss : List (List LP)) (w : World) (hm : Rd (QS (QT 40) 1) 1 w A n c xss) (hsq : ∀ i, i < n → (xss.getD i []).length = n) (hn : n ≤ 5) :
    Calls Try.prog 9 #[.slice A n c] w (GivesVW w (detR n (mtx xss)) 200) := by
  have hmm := @run_makeMap Try.prog
  have hmf : ∀ (fn : Fn) (first cap : Array Value) (w : World), (Instr.makeFunc fn first cap).run Try.prog w = .ok (.func fn first cap) w := fun _ _ _ _ => rfl
  have hb3 : Below w.heap.size w (((w.alloc (.cells #[.slice A n c] 36)).alloc (.map #[] 0)).alloc (.cells #[.map (some (w.heap.size + 1))] 34)) := (((Below.refl _ _).alloc (Nat.le_refl _) _).alloc (by simp) _).alloc (by simp; omega) _
  have V := pdetW_visit w (w.heap.size + 1 + 1) w.heap.size A n c xss hm (by omega) (by omega) hsq hn
  have hJ : PJW w (w.heap.size + 1 + 1) w.heap.size A n c (0, 0) (((w.alloc (.cells #[.slice A n c] 36)).alloc (.map #[] 0)).alloc (.cells #[.map (some (w.heap.size + 1))] 34)) := by
    refine ⟨hb3, ⟨w.heap.size + 1, ?_, ?_, by omega⟩, ((Blk.new w 36 #[.slice A n c]).alloc _).alloc _⟩
    · have := Blk.new ((w.alloc (.cells #[.slice A n c] 36)).alloc (.map #[] 0)) 34 #[.map (some (w.heap.size + 1))]
      simpa using this
    · have h := (MapI.made (w.alloc (.cells #[.slice A n c] 36)))
      simp only [World.size_alloc] at h
      have h2 := h.below ((Below.refl _ _).alloc (Nat.le_refl _) (.cells #[.map (some (w.heap.size + 1))] 34))
      exact ⟨[], h2, Cg.refl _, WR.nil, by simp⟩
  have hfold := foldl_stepP (mtx xss) (permsN n) (0, 0)
  rw [show (0, 0).1 + sumLR ((permsN n).map (termP (mtx xss))) = detR n (mtx xss) from (CR.zero_add _).trans (leib_eq n (mtx xss))] at hfold
  have HP := hide (permutationsL_any V ePdX (by omega) (0, 0) _ hJ trivial)
  rw [hfold] at HP
  have HB3 := hide hb3
  clear V hJ hm hb3 hfold hsq
  generalize detR n (mtx xss) = D at *
  go_enter Try.func9, Try.ntmps9
  go_wp2_with fail
  refine HP.out.mono ?_
  rintro e w3 ⟨rfl, hJ3, hg3⟩
  obtain ⟨b, hs1, hs2, hs3⟩ := hJ3.sum
  have hsum := hs1.cell 0
  simp at hsum
  have HS := hide hs2
  have HB := hide hJ3.below
  have HFAR := hide hs3
  clear hJ3 hg3 HP HB3 hs1 hs2 hs3
  go_wp2_with fail
  go_ret
  exact ⟨b, rfl, HFAR.out, HS.out, HB.out⟩
end Go.Proofs.Ytgbipfohcailnaa
