/- Several texts in one. -/
import Derived.Test.YtgbipfohcailnaaPart4
import Derived.Test.YtgbipfohcailnaaBase1
import Derived.Test.YtgbipfohcailnaaPart1
import Derived.Test.YtgbipfohcailnaaPart2
/- timbref1.Terms.Mul. -/
namespace Go.Proofs.Ytgbipfohcailnaa
set_option linter.unusedVariables false
set_option linter.unusedSimpArgs false
open Go.RowKit Go.Maps

theorem LP.term_mul_snoc2 (x c : Int) (Y : LP) (y d : Int) : LP.term x c * (Y + LP.term y d) = LP.term x c * Y + LP.term (x + y) (c * d) := by
  rw [CR.mul_add]
  congr 1
theorem coefT_mul_le {Va Vb : Nat} {b : List Tm} (hb : ∀ k, (coefT b k).natAbs ≤ Vb) : ∀ (a : List Tm), (∀ p ∈ a, p.2.natAbs ≤ Va) → ∀ k, (coefT (mulT a b) k).natAbs ≤ a.length * (Va * Vb)
  | [], _, k => by simp [mulT, coefT, sumT]
  | (e, c) :: a, h, k => by
    rw [mulT_cons, coefT_append, coefT_scale]
    have h1 := coefT_mul_le hb a (fun p hp => h p (List.mem_cons_of_mem _ hp)) k
    have h2 : (c * coefT b (k - e)).natAbs ≤ Va * Vb := by rw [Int.natAbs_mul]; exact Nat.mul_le_mul (h _ List.mem_cons_self) (hb _)
    have h3 := Int.natAbs_add_le (c * coefT b (k - e)) (coefT (mulT a b) k)
    rw [List.length_cons, Nat.succ_mul]
    show (c * coefT b (k - e) + coefT (mulT a b) k).natAbs ≤ _
    omega

set_option maxRecDepth 100000 in
set_option maxHeartbeats 4000000 in
theorem tmul_any (ba bb : Nat) (ta tb : List Tm) (Ea Eb E Va Vb : Nat) (hE : Ea + Eb ≤ E) (hE4 : E ≤ 400000) (hV : ta.length * (Va * Vb) ≤ 4000000000000000000) (w : World) (ha : MapI w ba ta) (hb : MapI w bb tb) (hka : ∀ p ∈ ta, p.1.natAbs ≤ Ea) (hkb : ∀ p ∈ tb, p.1.natAbs ≤ Eb) (hva : ∀ p ∈ ta, p.2.natAbs ≤ Va) (hvb : ∀ p ∈ tb, p.2.natAbs ≤ Vb) :
    Calls Try.prog 22 #[.map (some ba), .map (some bb)] w (GivesT w (LP.mk ta * LP.mk tb) E) := by
  have hmm := @run_makeMap Try.prog
  have HA := hide ha
  have HB := hide hb
  have HKA := hide hka
  have HKB := hide hkb
  have HVA := hide hva
  have HVB := hide hvb
  have HV := hide hV
  have lba := ha.lt
  have lbb := hb.lt
  clear ha hb hka hkb hva hvb hV
  have HW0 := hide ((Below.refl w.heap.size w).alloc (Nat.le_refl _) (.map #[] 0))
  have HM0 := hide (MapI.made w)
  obtain ⟨m, hm⟩ : ∃ m, w.heap.size = m := ⟨_, rfl⟩
  have HMM := hide hm
  clear hm
  go_enter Try.func22, Try.ntmps22
  go_upto_region 2 with fail
  obtain ⟨w0, hw0⟩ : ∃ x, w.alloc (.map #[] 0) = x := ⟨_, rfl⟩
  have hm := HMM.out
  rw [hw0] at HW0 HM0 ⊢
  rw [hm] at HM0 HW0 lba lbb ⊢
  clear hw0 hm
  have l0 : m < w0.heap.size := HM0.out.lt
  go_wp2_with (refine wpList_rangeI _ rfl _ _ rfl ut ba ta rfl (HA.out.below (by rw [HMM.out]; exact HW0.out)) (fun p hp => wfI (by have := HKA.out p hp; omega)) ?_; intro w1 cnt hrg hg1 hs1)
  obtain ⟨r, hr⟩ : ∃ r, w0.heap.size = r := ⟨_, rfl⟩
  rw [hr] at hrg l0 ⊢
  have HM1 := hide (HM0.out.kept hg1 (by simp))
  have HW1 := hide (HW0.out.grown hg1 (by rw [← HMM.out]; exact HW0.out.size) (by simp))
  have HRG := hide hrg
  clear hrg hg1 hs1 HM0 HW0 hr
  go_frame
  go_loopw [6] (fun _ wr => ∃ (o done rem : List Tm) (cnt : Nat), RangeI wr ba r ta done rem cnt ∧ MapI wr m o ∧ LP.mk o = LP.mk done * LP.mk tb ∧ (∀ p ∈ o, p.1.natAbs ≤ E) ∧ Below m w wr ∧ m < r) (fun _ wr => wr.rangeLeft ba r)
  case atStart => exact ⟨[], [], ta, cnt, HRG.out, HM1.out, rfl, by simp, HW1.out, l0⟩
  case round =>
    clear HRG HM1 HW1 l0
    obtain ⟨o, done, rem, cnt, hrg, hmo, ho, hke, hbw, hmr⟩ := hrel
    have HMO := hide hmo
    have HO := hide ho
    have HKE := hide hke
    have HBW := hide hbw
    have HRG := hide hrg
    have hor := hrg.left_eq
    have HOR := hide hor
    clear hmo ho hke hbw hrg hor
    go_wp2_with (refine wpList_nextI _ rfl _ rfl ba r ta done rem cnt rfl HRG.out ?_ ?_)
    · intro hrem
      subst hrem
      have HO2 : Hid (LP.mk o = LP.mk ta * LP.mk tb) := hide (by rw [HO.out, mk_perm HRG.out.all])
      clear HRG HOR HO
      go_wp2_with fail
      go_ret
      exact ⟨m, o, rfl, by rw [HMM.out]; exact Nat.le_refl _, HMO.out, HO2.out, HKE.out, by rw [HMM.out]; exact HBW.out⟩
    · intro x c rem' w2 cnt' hpm hrg2 hlt hg2 hs2 hen
      have hfr := hrg2.fresh
      have hxE := HKA.out _ hfr.2
      have hcV := HVA.out _ hfr.2
      have hDL : done.length + 1 ≤ ta.length := by
        have := hrg2.perm.length_eq
        simp at this
        omega
      have hDV : Hid (∀ p ∈ done, p.2.natAbs ≤ Va) := hide fun p hp => HVA.out p (hrg2.mem p (by simp [hp]))
      simp only at hxE hcV
      have HMO2 := hide (HMO.out.kept hg2 (by intro e; injection e with e; omega))
      have HBW2 := hide (HBW.out.grown hg2 (by rw [← HMM.out]; exact HBW.out.size) (fun j hj => by injection hj with hj; omega))
      have HRG2 := hide hrg2
      have HX := hide hxE
      have HC := hide hcV
      have HDL := hide hDL
      clear hrg2 hfr hpm hg2 hs2 hxE hcV HMO HBW HRG hDL
      go_upto_region 5 with fail
      clear hen
      have l2 : m < w2.heap.size := HMO2.out.lt
      have lr2 : r < w2.heap.size := HRG2.out.lt
      go_wp2_with (refine wpList_rangeI _ rfl _ _ rfl ut bb tb rfl (HB.out.below (by rw [HMM.out]; exact HBW2.out)) (fun p hp => wfI (by have := HKB.out p hp; omega)) ?_; intro w3 cnt3 hrg hg3 hs3)
      obtain ⟨r2, hr2⟩ : ∃ r, w2.heap.size = r := ⟨_, rfl⟩
      rw [hr2] at hrg l2 lr2 ⊢
      have HM3 := hide (HMO2.out.kept hg3 (by simp))
      have HW3 := hide (HBW2.out.grown hg3 (by rw [← HMM.out]; exact HBW2.out.size) (by simp))
      have HQ3 := hide (HRG2.out.kept hg3 (by simp) (by simp))
      have HRG3 := hide hrg
      clear hrg hg3 hs3 HMO2 HBW2 hr2 HRG2
      go_frame
      rename World => wo
      go_loopw [8] (fun _ wr => ∃ (o doneB rem : List Tm) (cnt : Nat), RangeI wr bb r2 tb doneB rem cnt ∧ RangeI wr ba r ta (done ++ [(x, c)]) rem' cnt' ∧ MapI wr m o ∧ LP.mk o = LP.mk done * LP.mk tb + LP.term x c * LP.mk doneB ∧ (∀ p ∈ o, p.1.natAbs ≤ E) ∧ Below m w wr) (fun _ wr => wr.rangeLeft bb r2)
      case atStart => exact ⟨o, [], tb, cnt3, HRG3.out, HQ3.out, HM3.out, by rw [HO.out]; show _ = _ + LP.term x c * (0 : LP); rw [CR.mul_zero, CR.add_zero], HKE.out, HW3.out⟩
      case round =>
        clear HRG3 HM3 HW3 HQ3 HKE HO
        obtain ⟨o, doneB, rem, cntB, hrg, hqq, hmo, ho, hke, hbw⟩ := hrel
        have HMO := hide hmo
        have HO := hide ho
        have HKE := hide hke
        have HBW := hide hbw
        have HRG := hide hrg
        have HQQ := hide hqq
        have hor := hrg.left_eq
        have HOR2 := hide hor
        clear hmo ho hke hbw hrg hor hqq
        go_wp2_with (refine wpList_nextI _ rfl _ rfl bb r2 tb doneB rem cntB rfl HRG.out ?_ ?_)
        · intro hrem
          subst hrem
          have HO2 : Hid (LP.mk o = LP.mk (done ++ [(x, c)]) * LP.mk tb) := hide (by rw [HO.out, mk_perm HRG.out.all, LP.mk_snoc, CR.add_mul])
          clear HRG HOR2 HO
          go_wp2_with fail
          go_roundw
          case rel => exact ⟨o, _, rem', cnt', HQQ.out, HMO.out, HO2.out, HKE.out, HBW.out, hmr⟩
          case measure => rw [HQQ.out.left_eq, HOR.out]; exact hlt
        · intro y d rem'' w4 cnt'' hpm hrg2 hlt2 hg2 hs2 hen
          have hfr := hrg2.fresh
          have hyE := HKB.out _ hfr.2
          have hdV := HVB.out _ hfr.2
          simp only at hyE hdV
          have HMO2 := hide (HMO.out.kept hg2 (by intro e; injection e with e; omega))
          have HQQ2 := hide (HQQ.out.kept hg2 (by intro e; injection e with e; omega) (by intro e; injection e with e; omega))
          have HBW2 := hide (HBW.out.grown hg2 (by rw [← HMM.out]; exact HBW.out.size) (fun j hj => by injection hj with hj; omega))
          have hco : coefT o (x + y) = coefT (mulT done tb) (x + y) := by
            have h : LP.co (LP.mk o) (x + y) = LP.co (LP.mk done * LP.mk tb + LP.term x c * LP.mk doneB) (x + y) := by rw [HO.out]
            rw [LP.co_add, LP.co_term_mul, LP.mul_mk, LP.co_mk, LP.co_mk, LP.co_mk, show x + y - x = y by omega, hfr.1, Int.mul_zero, Int.add_zero] at h
            exact h
          have haV : (coefT o (x + y)).natAbs ≤ done.length * (Va * Vb) := by rw [hco]; exact coefT_mul_le (fun k => coefT_le HB.out.nodup HVB.out k) done hDV.out _
          have hcd : (c * d).natAbs ≤ Va * Vb := by rw [Int.natAbs_mul]; exact Nat.mul_le_mul HC.out hdV
          have hsum : done.length * (Va * Vb) + Va * Vb ≤ 4000000000000000000 := by
            have h1 : (done.length + 1) * (Va * Vb) ≤ ta.length * (Va * Vb) := Nat.mul_le_mul_right _ HDL.out
            rw [Nat.succ_mul] at h1
            exact Nat.le_trans h1 HV.out
          have HO3 : Hid (LP.mk (putT o (x + y) (coefT o (x + y) + c * d)) = LP.mk done * LP.mk tb + LP.term x c * LP.mk (doneB ++ [(y, d)])) := hide (by rw [LP.mk_snoc, LP.term_mul_snoc2, ← CR.add_assoc, ← HO.out]; exact putT_mk HMO.out.nodup rfl _ _ _ rfl)
          have hx1 := HX.out
          obtain ⟨a0, ha0⟩ : ∃ a, coefT o (x + y) = a := ⟨_, rfl⟩
          obtain ⟨z0, hz0⟩ : ∃ a, x + y = a := ⟨_, rfl⟩
          have hza : z0.natAbs ≤ E := by omega
          rw [ha0] at haV HO3
          rw [hz0] at ha0 HO3
          have hwx : wrap64 (x + y) = z0 := by rw [hz0]; exact wrap64_small (by omega)
          have hwk : wrap64 (c * d) = c * d := wrap64_small (by omega)
          have hwr : wrap64 (a0 + c * d) = a0 + c * d := wrap64_small (by omega)
          have hle : o.length < 1000000 := Nat.lt_of_le_of_lt (nodup_leT HMO.out.nodup HKE.out) (by omega)
          have HWF := hide (wfI (x := z0) (by omega))
          have HKE2 : Hid (∀ p ∈ putT o z0 (a0 + c * d), p.1.natAbs ≤ E) := hide (fun p hp => by
            rcases putT_keys _ _ _ p hp with h | h
            · exact HKE.out p h
            · rw [h]; exact hza)
          have HRG2 := hide hrg2
          have HCO := hide ha0
          clear hrg2 hfr hpm hg2 hs2 hco hyE hdV ha0 haV hcd hsum hz0 hx1 hza
          go_wp2_with (first
            | ((with_reducible show wpList _ _ _ (Oper.mk _ (.lookup _ _ _ _) _ _ _ _ :: _) _ _); refine wpList_lookI _ rfl _ _ _ rfl ut m o z0 rfl HMO2.out (by simp only [hwx]; rfl) HWF.out ?_; rw [HCO.out])
            | ((with_reducible show wpList _ _ _ (Oper.mk _ (.mapUpdate _ _ _ _) _ _ _ _ :: _) _ _); refine wpList_putI _ rfl _ _ _ _ rfl ut m o z0 _ rfl HMO2.out hle rfl rfl HWF.out ?_; intro w9 hm9 hg9 hs9; try simp only [hwk, hwr] at hm9))
          have HM9 := hide hm9
          have HRG9 := hide (HRG2.out.kept hg9 (by intro e; injection e with e; omega) (by intro e; injection e with e; omega))
          have HQQ9 := hide (HQQ2.out.kept hg9 (by intro e; injection e with e; omega) (by intro e; injection e with e; omega))
          have HBW9 := hide (HBW2.out.grown hg9 (by rw [← HMM.out]; exact HBW2.out.size) (fun j hj => by injection hj with hj; omega))
          clear hg9 hs9 hen hm9 hwr hle hwk hwx
          go_frame
          go_roundw
          case rel => exact ⟨_, _, rem'', cnt'', HRG9.out, HQQ9.out, HM9.out, HO3.out, HKE2.out, HBW9.out⟩
          case measure => rw [HRG9.out.left_eq, HOR2.out]; exact hlt2
end Go.Proofs.Ytgbipfohcailnaa
/- timbref1.Terms.Poly. -/
namespace Go.Proofs.Ytgbipfohcailnaa
set_option linter.unusedVariables false
set_option linter.unusedSimpArgs false
open Go.RowKit Go.Maps

/-- What the first loop of Poly knows of the terms that it has seen. -/
def LH (done : List Tm) (low high : Int) (any : Bool) : Prop :=
  match any with
  | false => (∀ p ∈ done, p.2 = 0) ∧ low = 0 ∧ high = 0
  | true => (∃ c, c ≠ 0 ∧ (low, c) ∈ done) ∧ (∃ c, c ≠ 0 ∧ (high, c) ∈ done) ∧ ∀ p ∈ done, p.2 ≠ 0 → low ≤ p.1 ∧ p.1 ≤ high
theorem LH.zero {done : List Tm} {low high : Int} {any : Bool} (h : LH done low high any) (x : Int) : LH (done ++ [(x, 0)]) low high any := by
  cases any with
  | false => exact ⟨fun p hp => by rcases List.mem_append.1 hp with hp | hp; exact h.1 p hp; rw [List.mem_singleton.1 hp], h.2⟩
  | true =>
    obtain ⟨⟨c, hc, h1⟩, ⟨d, hd, h2⟩, h3⟩ := h
    refine ⟨⟨c, hc, List.mem_append_left _ h1⟩, ⟨d, hd, List.mem_append_left _ h2⟩, fun p hp h0 => ?_⟩
    rcases List.mem_append.1 hp with hp | hp
    · exact h3 p hp h0
    · rw [List.mem_singleton.1 hp] at h0; exact absurd rfl h0
theorem LH.first {done : List Tm} {low high : Int} (h : LH done low high false) (x : Int) {c : Int} (hc : c ≠ 0) : LH (done ++ [(x, c)]) x x true := by
  refine ⟨⟨c, hc, by simp⟩, ⟨c, hc, by simp⟩, fun p hp h0 => ?_⟩
  rcases List.mem_append.1 hp with hp | hp
  · exact absurd (h.1 p hp) h0
  · rw [List.mem_singleton.1 hp]; exact ⟨Int.le_refl _, Int.le_refl _⟩
theorem LH.next {done : List Tm} {low high : Int} (h : LH done low high true) (x : Int) {c : Int} (hc : c ≠ 0) : LH (done ++ [(x, c)]) (if x < low then x else low) (if high < x then x else high) true := by
  obtain ⟨⟨c1, hc1, h1⟩, ⟨d, hd, h2⟩, h3⟩ := h
  refine ⟨?_, ?_, fun p hp h0 => ?_⟩
  · by_cases e : x < low
    · rw [if_pos e]; exact ⟨c, hc, by simp⟩
    · rw [if_neg e]; exact ⟨c1, hc1, List.mem_append_left _ h1⟩
  · by_cases e : high < x
    · rw [if_pos e]; exact ⟨c, hc, by simp⟩
    · rw [if_neg e]; exact ⟨d, hd, List.mem_append_left _ h2⟩
  · rcases List.mem_append.1 hp with hp | hp
    · have := h3 p hp h0
      split <;> split <;> omega
    · rw [List.mem_singleton.1 hp]
      show (if x < low then x else low) ≤ x ∧ x ≤ (if high < x then x else high)
      split <;> split <;> omega
theorem LH.none_ {T : List Tm} {low high : Int} (hn : (T.map (·.1)).Nodup) {done : List Tm} (hp : done.Perm T) (h : LH done low high false) : LP.canon (LP.mk T) = (0, []) := by
  have : LP.mk T = 0 := LP.ext fun k => by
    rw [LP.co_mk, LP.co_zero, ← coefT_perm hp, coefT_look ((hp.map (·.1)).nodup_iff.2 hn)]
    cases e : lookT done k with
    | none => rfl
    | some c => exact h.1 _ (lookT_mem e)
  rw [this, LP.canon_zero]
theorem LH.some_ {T : List Tm} {low high : Int} (hn : (T.map (·.1)).Nodup) {done : List Tm} (hp : done.Perm T) (h : LH done low high true) : ∃ n : Nat, high = low + n ∧ LP.canon (LP.mk T) = (low, LP.win (LP.mk T) low (n + 1)) := by
  have hn2 := (hp.map (·.1)).nodup_iff.2 hn
  obtain ⟨⟨c1, hc1, h1⟩, ⟨d, hd, h2⟩, h3⟩ := h
  have hle := h3 _ h2 hd
  have e : high = low + ((high - low).toNat : Nat) := by have := hle.1; simp only at this; omega
  have v1 : LP.co (LP.mk T) low = c1 := by rw [LP.co_mk, ← coefT_perm hp, coefT_look hn2, lookT_of_mem hn2 h1]; rfl
  have v2 : LP.co (LP.mk T) high = d := by rw [LP.co_mk, ← coefT_perm hp, coefT_look hn2, lookT_of_mem hn2 h2]; rfl
  refine ⟨(high - low).toNat, e, LP.canon_win (fun k hk => ?_) (by rw [v1]; exact hc1) (by rw [← e, v2]; exact hd)⟩
  rw [LP.co_mk, ← coefT_perm hp, coefT_look hn2] at hk
  cases el : lookT done k with
  | none => rw [el] at hk; exact absurd rfl hk
  | some c =>
    rw [el] at hk
    have := h3 _ (lookT_mem el) hk
    simp only at this
    omega
theorem LH.low_le {done : List Tm} {low high : Int} {any : Bool} {E : Nat} (h : LH done low high any) (hk : ∀ p ∈ done, p.1.natAbs ≤ E) : low.natAbs ≤ E ∧ high.natAbs ≤ E := by
  cases any with
  | false => obtain ⟨_, rfl, rfl⟩ := h; exact ⟨Nat.zero_le _, Nat.zero_le _⟩
  | true => obtain ⟨⟨c1, hc1, h1⟩, ⟨d, hd, h2⟩, h3⟩ := h; exact ⟨hk _ h1, hk _ h2⟩
theorem grownBy_set (w : World) (g i : Nat) (v : Value) : w.grownBy (w.setCell ⟨g, i, none⟩ v) (some g) :=
  ⟨rfl, rfl, rfl, by simp, fun k _ hne => Below.heap_setCell w ⟨g, i, none⟩ v k (fun e => hne (by rw [e]))⟩
theorem LP.win_succ (x : LP) (lo : Int) (k : Nat) : LP.win x lo (k + 1) = LP.win x lo k ++ [LP.co x (lo + k)] := by simp [LP.win, List.range_succ]

end Go.Proofs.Ytgbipfohcailnaa
/- Reading slices of anything within a set of blocks; slices that the call builds item by item. -/
namespace Go.Proofs.Ytgbipfohcailnaa
set_option linter.unusedVariables false
set_option linter.unusedSimpArgs false
open Go.RowKit

/-- The blocks of K are as they were. -/
def SameK (K : Nat → Prop) (w w' : World) : Prop := ∀ b, K b → w'.heap[b]? = w.heap[b]?
theorem SameK.cell {K : Nat → Prop} {w w' : World} (h : SameK K w w') {a : Addr} (ha : K a.block) : w'.cell? a = w.cell? a := World.cell?_of_block (w := w) (h a.block ha)
theorem SameK.below {B : Nat} {w w' : World} (h : Below B w w') : SameK (fun b => b < B) w w' := fun b hb => h.block b hb
theorem SameK.grown {w w' : World} {row : Option Nat} (h : w.grownBy w' row) : SameK (fun b => b < w.heap.size ∧ row ≠ some b) w w' := fun b hb => h.block b hb.1 (fun e => hb.2 e.symm)
theorem SameK.mono {K K' : Nat → Prop} {w w' : World} (h : SameK K w w') (hk : ∀ b, K' b → K b) : SameK K' w w' := fun b hb => h b (hk b hb)
theorem cell_lt {w : World} {a : Addr} {v : Value} (h : w.cell? a = some v) : a.block < w.heap.size := by
  rcases Nat.lt_or_ge a.block w.heap.size with h1 | h1
  · exact h1
  · unfold World.cell? at h
    rw [show w.heap[a.block]? = none by simpa using h1] at h
    cases h

/-- A reading of an item out of its cells: it looks at blocks of K alone. -/
abbrev RdI (α : Type) := (Nat → Prop) → World → List Value → α → Prop
structure RdOk {α : Type} (Q : RdI α) : Prop where
  keep : ∀ {K : Nat → Prop} {w w' : World} {us : List Value} {y : α}, SameK K w w' → w.heap.size ≤ w'.heap.size → Q K w us y → Q K w' us y
  mono : ∀ {K K' : Nat → Prop} {w : World} {us : List Value} {y : α}, (∀ b, b < w.heap.size → K b → K' b) → Q K w us y → Q K' w us y

/-- A slice that reads as ys; each item takes sz cells. -/
structure RdS {α : Type} (Q : RdI α) (sz : Nat) (K : Nat → Prop) (w : World) (A : Option Addr) (n c : Nat) (ys : List α) : Prop where
  len : ys.length = n
  small : n ≤ 17592186044416
  nil : A = none → n = 0 ∧ c = 0
  cap : n ≤ c
  mem : 0 < n → ∃ ad, A = some ad ∧ ad.block < w.heap.size ∧ K ad.block ∧ ∀ j (hj : j < ys.length), ∃ us : List Value, us.length = sz ∧ w.cell? (ad.add (j * sz)) = us[0]? ∧ (∀ i, i < sz → w.cell? ⟨(ad.add (j * sz)).block, (ad.add (j * sz)).off + i, none⟩ = us[i]?) ∧ Q K w us ys[j]
section
variable {α : Type} {Q : RdI α} {sz n c : Nat} {K K' : Nat → Prop} {w w' : World} {A : Option Addr} {ys : List α}
theorem RdS.keep (hQ : RdOk Q) (h : RdS Q sz K w A n c ys) (hk : SameK K w w') (hs : w.heap.size ≤ w'.heap.size) : RdS Q sz K w' A n c ys :=
  ⟨h.len, h.small, h.nil, h.cap, fun hn => by
    obtain ⟨ad, e, hl, hb, hc⟩ := h.mem hn
    refine ⟨ad, e, Nat.lt_of_lt_of_le hl hs, hb, fun j hj => ?_⟩
    obtain ⟨us, h1, h0, h2, h3⟩ := hc j hj
    exact ⟨us, h1, (hk.cell (by rw [block_of_add]; exact hb)).trans h0, fun i hi => (hk.cell (by show K (ad.add (j * sz)).block; rw [block_of_add]; exact hb)).trans (h2 i hi), hQ.keep hk hs h3⟩⟩
theorem RdS.mono (hQ : RdOk Q) (h : RdS Q sz K w A n c ys) (hk : ∀ b, b < w.heap.size → K b → K' b) : RdS Q sz K' w A n c ys :=
  ⟨h.len, h.small, h.nil, h.cap, fun hn => by
    obtain ⟨ad, e, hl, hb, hc⟩ := h.mem hn
    refine ⟨ad, e, hl, hk _ hl hb, fun j hj => ?_⟩
    obtain ⟨us, h1, h0, h2, h3⟩ := hc j hj
    exact ⟨us, h1, h0, h2, hQ.mono hk h3⟩⟩
theorem RdS.nil_ (Q : RdI α) (sz : Nat) (K : Nat → Prop) (w : World) : RdS Q sz K w none 0 0 [] := ⟨rfl, by omega, fun _ => ⟨rfl, rfl⟩, Nat.le_refl _, fun h => absurd h (by omega)⟩
end
/-- A slice of slices. -/
def QS {α : Type} (Q : RdI α) (sz : Nat) : RdI (List α) := fun K w us ys => ∃ B m d, us = [.slice B m d] ∧ RdS Q sz K w B m d ys
/-- A slice as it stands in the world: all that it reads is there. -/
abbrev Rd {α : Type} (Q : RdI α) (sz : Nat) (w : World) (A : Option Addr) (n c : Nat) (ys : List α) : Prop := RdS Q sz (fun b => b < w.heap.size) w A n c ys
theorem Rd.below {α : Type} {Q : RdI α} {sz n c : Nat} {w w' : World} {A : Option Addr} {ys : List α} (hQ : RdOk Q) (h : Rd Q sz w A n c ys) (hb : Below w.heap.size w w') : Rd Q sz w' A n c ys :=
  (h.keep hQ (SameK.below hb) hb.size).mono hQ fun b _ hl => Nat.lt_of_lt_of_le hl hb.size

structure SLK (K : Nat → Prop) (w : World) (A : Option Addr) (n c : Nat) (xs : List Int) : Prop where
  sl : SL w A n c xs
  inK : 0 < n → ∀ ad, A = some ad → K ad.block
theorem SLK.keep {K : Nat → Prop} {w w' : World} {A : Option Addr} {n c : Nat} {xs : List Int} (h : SLK K w A n c xs) (hk : SameK K w w') (hs : w.heap.size ≤ w'.heap.size) : SLK K w' A n c xs :=
  ⟨⟨⟨h.sl.il.len, h.sl.il.small, fun hn => by
    obtain ⟨ad, e, hl, hc⟩ := h.sl.il.mem hn
    refine ⟨ad, e, Nat.lt_of_lt_of_le hl hs, fun j hj => ?_⟩
    rw [← hc j hj]
    exact hk.cell (by rw [block_of_add]; exact h.inK hn ad e)⟩, h.sl.nil, h.sl.cap⟩, h.inK⟩
theorem SLK.mono {K K' : Nat → Prop} {w : World} {A : Option Addr} {n c : Nat} {xs : List Int} (h : SLK K w A n c xs) (hk : ∀ b, b < w.heap.size → K b → K' b) : SLK K' w A n c xs :=
  ⟨h.sl, fun hn ad e => hk _ (by
    obtain ⟨ad', e', hl, _⟩ := h.sl.il.mem hn
    rw [e] at e'; injection e' with e'; rw [e']; exact hl) (h.inK hn ad e)⟩
theorem SL.k {w : World} {A : Option Addr} {n c : Nat} {xs : List Int} (h : SL w A n c xs) : SLK (fun b => b < w.heap.size) w A n c xs := ⟨h, fun hn ad e => h.inside hn ad e⟩
theorem QS_ok {α : Type} {Q : RdI α} (hQ : RdOk Q) (sz : Nat) : RdOk (QS Q sz) :=
  ⟨fun hk hs ⟨B, m, d, e, h⟩ => ⟨B, m, d, e, h.keep hQ hk hs⟩, fun hk ⟨B, m, d, e, h⟩ => ⟨B, m, d, e, h.mono hQ hk⟩⟩
section
variable {α : Type} {Q : RdI α} {n c k : Nat} {K : Nat → Prop} {w : World} {A : Option Addr} {ys : List α}
theorem RdS.at1 (h : RdS Q 1 K w A n c ys) (hk : k < n) : ∃ ad v, A = some ad ∧ w.cell? (ad.add k) = some v ∧ Q K w [v] (ys[k]'(by rw [h.len]; exact hk)) := by
  obtain ⟨ad, e, _, hb, hc⟩ := h.mem (by omega)
  obtain ⟨us, h1, h0, h2, h3⟩ := hc k (by rw [h.len]; exact hk)
  match us, h1 with
  | [v], _ => exact ⟨ad, v, e, by rw [Nat.mul_one] at h0; exact h0, h3⟩
theorem RdS.inK (h : RdS Q n K w A c k ys) : 0 < c → ∀ ad, A = some ad → K ad.block ∧ ad.block < w.heap.size := fun hn ad e => by
  obtain ⟨ad', e', hl, hb, _⟩ := h.mem hn
  rw [e] at e'; injection e' with e'; subst e'; exact ⟨hb, hl⟩
end

/-! ### built by the call -/
/-- A slice of the call's own, with elements of type e and sz cells. -/
structure OwnG (e : TypeId) (sz : Nat) (w : World) (base : Nat) (A : Option Addr) (n c : Nat) (vs : List Value) : Prop where
  own : w.ownsRow base e sz (.slice A n c) n vs
  small : n ≤ 1000000
section
variable {e : TypeId} {sz base n c : Nat} {w w' : World} {A : Option Addr} {vs : List Value}
theorem OwnG.nil_ (e : TypeId) (sz : Nat) (w : World) (base : Nat) : OwnG e sz w base none 0 0 [] := ⟨World.ownsRow_nil _ _ _ _, by omega⟩
theorem OwnG.len (h : OwnG e sz w base A n c vs) : vs.length = n * sz := h.own.1
theorem OwnG.lt (h : OwnG e sz w base A n c vs) : ∀ k, (Value.slice A n c).ownBlock = some k → base ≤ k ∧ k < w.heap.size := h.own.lt
theorem OwnG.keep {K : Nat → Prop} (h : OwnG e sz w base A n c vs) (hk : SameK K w w') (hK : ∀ k, (Value.slice A n c).ownBlock = some k → K k) : OwnG e sz w' base A n c vs := by
  refine ⟨⟨h.own.1, ?_⟩, h.small⟩
  rcases h.own.2 with h2 | ⟨g, cap, cur, hv, hg, hh, r⟩
  · exact .inl h2
  · exact .inr ⟨g, cap, cur, hv, hg, (hk g (hK g (by rw [hv]; rfl))).trans hh, r⟩
theorem OwnG.below (h : OwnG e sz w base A n c vs) (hb : Below w.heap.size w w') : OwnG e sz w' base A n c vs := h.keep (SameK.below hb) fun k hk => (h.lt k hk).2
theorem OwnG.mono {b' : Nat} (h : OwnG e sz w base A n c vs) (hb : b' ≤ base) : OwnG e sz w b' A n c vs := by
  refine ⟨⟨h.own.1, ?_⟩, h.small⟩
  rcases h.own.2 with h2 | ⟨g, cap, cur, hv, hg, r⟩
  · exact .inl h2
  · exact .inr ⟨g, cap, cur, hv, by omega, r⟩
theorem OwnG.form (h : OwnG e sz w base A n c vs) (hn : 0 < n) : ∃ g, A = some ⟨g, 0, none⟩ ∧ base ≤ g ∧ g < w.heap.size := by
  rcases h.own.2 with ⟨_, h0⟩ | ⟨g, cap, cur, hv, hg, hh, _⟩
  · omega
  · simp only [Value.slice.injEq] at hv
    exact ⟨g, hv.1, hg, Blk.lt (w := w) (t := e) (cs := cur) hh⟩
theorem OwnG.cells (h : OwnG e sz w base A n c vs) : ∀ k, (Value.slice A n c).ownBlock = some k → ∃ cur : Array Value, base ≤ k ∧ w.heap[k]? = some (.cells cur e (0, 0)) := by
  intro k hk
  rcases h.own.2 with ⟨hv, _⟩ | ⟨g, cap, cur, hv, hb, hh, _⟩
  · rw [hv] at hk; cases hk
  · rw [hv] at hk
    injection hk with hk
    subst hk
    exact ⟨cur, hb, hh⟩
theorem OwnG.nilcap (h : OwnG e sz w base A n c vs) : (A = none → n = 0 ∧ c = 0) ∧ n ≤ c := by
  rcases h.own.2 with ⟨hv, h0⟩ | ⟨g, cap, cur, hv, _, _, hnc, _⟩
  · simp only [Value.slice.injEq] at hv
    exact ⟨fun _ => ⟨hv.2.1, hv.2.2⟩, by omega⟩
  · simp only [Value.slice.injEq, true_and] at hv
    exact ⟨fun e => (by rw [e] at hv; exact absurd hv.1 (by simp)), by omega⟩
theorem OwnG.cellAt {g : Nat} (h : OwnG e sz w base (some ⟨g, 0, none⟩) n c vs) {j : Nat} (hj : j < n * sz) : w.cell? ⟨g, j, none⟩ = vs[j]? := h.own.cellAt j hj
theorem OwnG.frozen {g : Nat} (h : OwnG e sz w base (some ⟨g, 0, none⟩) n c vs) (j : Nat) : w.frozen? ⟨g, j, none⟩ = false := h.own.frozenAt j
theorem OwnG.set_ {g : Nat} (h : OwnG e sz w base (some ⟨g, 0, none⟩) n c vs) (j : Nat) (u : Value) : OwnG e sz (w.setCell ⟨g, j, none⟩ u) base (some ⟨g, 0, none⟩) n c (vs.set j u) := ⟨(h.own.stored j u).1, h.small⟩
end
/-- What append leaves. -/
structure AppG (e : TypeId) (sz : Nat) (w : World) (base : Nat) (A : Option Addr) (n c : Nat) (vs : List Value) (A' : Option Addr) (c' : Nat) (w' : World) : Prop where
  own : OwnG e sz w' base A' n c' vs
  grown : w.grownBy w' (Value.slice A n c).ownBlock
  lies : (Value.slice A' n c').ownBlock = (Value.slice A n c).ownBlock ∨ (Value.slice A' n c').ownBlock = some w.heap.size
/-- A slice that the call builds: its own row of cells, and items that are read outside it. -/
structure Bld {α : Type} (L : Nat → Prop) (Q : RdI α) (e : TypeId) (sz : Nat) (w0 w : World) (A : Option Addr) (n c : Nat) (vs : List Value) (ys : List α) : Prop where
  own : OwnG e sz w w0.heap.size A n c vs
  len : ys.length = n
  row : ∀ j (hj : j < ys.length), Q (fun b => L b ∧ b < w.heap.size ∧ (Value.slice A n c).ownBlock ≠ some b) w ((vs.drop (j * sz)).take sz) ys[j]
  below : Below w0.heap.size w0 w
section
variable {α : Type} {L : Nat → Prop} {Q : RdI α} {e : TypeId} {sz n c : Nat} {w0 w w' : World} {A : Option Addr} {vs : List Value} {ys : List α}
theorem Bld.start (L : Nat → Prop) (Q : RdI α) (e : TypeId) (sz : Nat) (w0 : World) : Bld L Q e sz w0 w0 none 0 0 [] [] := ⟨OwnG.nil_ _ _ _ _, rfl, fun j hj => by simp at hj, Below.refl _ _⟩
theorem Bld.to (hQ : RdOk Q) (h : Bld L Q e sz w0 w A n c vs ys) (hb : Below w.heap.size w w') : Bld L Q e sz w0 w' A n c vs ys :=
  ⟨h.own.below hb, h.len, fun j hj => hQ.mono (fun b _ hb2 => ⟨hb2.1, Nat.lt_of_lt_of_le hb2.2.1 hb.size, hb2.2.2⟩) (hQ.keep ((SameK.below hb).mono fun b hb2 => hb2.2.1) hb.size (h.row j hj)), h.below.trans (hb.mono h.below.size)⟩
/-- One item more. -/
theorem Bld.add (hQ : RdOk Q) {A9 : Option Addr} {c9 : Nat} {w9 : World} {us : List Value} {y : α} (h : Bld L Q e sz w0 w A n c vs ys) (hl : us.length = sz)
    (hy : Q (fun b => L b ∧ b < w.heap.size ∧ (Value.slice A n c).ownBlock ≠ some b) w us y) (happ : AppG e sz w w0.heap.size A (n + 1) c (vs ++ us) A9 c9 w9) :
    Bld L Q e sz w0 w9 A9 (n + 1) c9 (vs ++ us) (ys ++ [y]) := by
  have hown : (Value.slice A (n + 1) c).ownBlock = (Value.slice A n c).ownBlock := ownBlock_len A (n + 1) n c c
  have hsame : SameK (fun b => L b ∧ b < w.heap.size ∧ (Value.slice A n c).ownBlock ≠ some b) w w9 := by
    have := SameK.grown happ.grown
    rw [hown] at this
    exact this.mono fun b hb => hb.2
  have hup : ∀ b, b < w9.heap.size → (L b ∧ b < w.heap.size ∧ (Value.slice A n c).ownBlock ≠ some b) → L b ∧ b < w9.heap.size ∧ (Value.slice A9 (n + 1) c9).ownBlock ≠ some b := fun b hb h2 => ⟨h2.1, hb, by
    rcases happ.lies with h3 | h3
    · rw [h3, hown]; exact h2.2.2
    · rw [h3]; intro e; injection e with e; omega⟩
  have hvl := h.own.len
  refine ⟨happ.own, by simp [h.len], fun j hj => ?_, h.below.grown happ.grown h.below.size (fun g hg => (h.own.lt g (by rw [← hown]; exact hg)).1)⟩
  have hj2 : j < n + 1 := by simp [h.len] at hj; exact hj
  by_cases hjn : j < n
  · have hj3 : j < ys.length := by rw [h.len]; exact hjn
    have hm : (j + 1) * sz ≤ n * sz := Nat.mul_le_mul_right _ hjn
    rw [Nat.add_mul, Nat.one_mul] at hm
    have e1 : ((vs ++ us).drop (j * sz)).take sz = (vs.drop (j * sz)).take sz := by
      rw [List.drop_append_of_le_length (by omega), List.take_append_of_le_length (by rw [List.length_drop]; omega)]
    have e2 : (ys ++ [y])[j] = ys[j] := List.getElem_append_left hj3
    rw [e1, e2]
    exact hQ.mono hup (hQ.keep hsame happ.grown.size (h.row j hj3))
  · have hjn2 : j = n := by omega
    subst hjn2
    have e1 : ((vs ++ us).drop (j * sz)).take sz = us := by
      rw [List.drop_append, show vs.drop (j * sz) = [] from List.drop_eq_nil_of_le (by omega), hvl, Nat.sub_self, List.drop_zero, List.nil_append, List.take_of_length_le (by omega)]
    have e2 : (ys ++ [y])[j] = y := by rw [List.getElem_append_right (by rw [h.len]; exact Nat.le_refl _)]; simp
    rw [e1, e2]
    exact hQ.mono hup (hQ.keep hsame happ.grown.size hy)
theorem Bld.rdK (hQ : RdOk Q) (hs0 : 0 < sz) (hL : ∀ b, w0.heap.size ≤ b → L b) (h : Bld L Q e sz w0 w A n c vs ys) : RdS Q sz (fun b => L b ∧ b < w.heap.size) w A n c ys := by
  have hvl := h.own.len
  refine ⟨h.len, by have := h.own.small; omega, h.own.nilcap.1, h.own.nilcap.2, fun hn => ?_⟩
  obtain ⟨g, rfl, hgb, hl⟩ := h.own.form hn
  refine ⟨_, rfl, hl, ⟨hL _ hgb, hl⟩, fun j hj => ⟨(vs.drop (j * sz)).take sz, ?_, ?_, ?_, hQ.mono (fun b hb h2 => ⟨h2.1, hb⟩) (h.row j hj)⟩⟩
  · have hj2 := h.len
    have hm : (j + 1) * sz ≤ n * sz := Nat.mul_le_mul_right _ (by omega)
    rw [Nat.add_mul, Nat.one_mul] at hm
    rw [List.length_take, List.length_drop]; omega
  · have hj2 := h.len
    have hm : (j + 1) * sz ≤ n * sz := Nat.mul_le_mul_right _ (by omega)
    rw [Nat.add_mul, Nat.one_mul] at hm
    rw [show (⟨g, 0, none⟩ : Addr).add (j * sz) = ⟨g, j * sz, none⟩ by unfold Addr.add; split <;> simp_all, h.own.cellAt (by omega)]
    rw [List.getElem?_take, if_pos hs0, List.getElem?_drop, Nat.add_zero]
  · intro i hi
    have hj2 := h.len
    have hm : (j + 1) * sz ≤ n * sz := Nat.mul_le_mul_right _ (by omega)
    rw [Nat.add_mul, Nat.one_mul] at hm
    rw [show (⟨g, 0, none⟩ : Addr).add (j * sz) = ⟨g, j * sz, none⟩ by unfold Addr.add; split <;> simp_all]
    show w.cell? ⟨g, j * sz + i, none⟩ = _
    rw [h.own.cellAt (by omega), List.getElem?_take, if_pos hi, List.getElem?_drop]
theorem Bld.rd (hQ : RdOk Q) (hs0 : 0 < sz) (hL : ∀ b, w0.heap.size ≤ b → L b) (h : Bld L Q e sz w0 w A n c vs ys) : Rd Q sz w A n c ys := (h.rdK hQ hs0 hL).mono hQ fun b hb _ => hb
/-- Outside a set of old blocks: everything that is read is new. -/
theorem Bld.far (h : Bld L Q e sz w0 w A n c vs ys) : 0 < n → ∀ ad, A = some ad → w0.heap.size ≤ ad.block := fun hn ad e => by
  obtain ⟨g, e2, hg, _⟩ := h.own.form hn
  rw [e] at e2; injection e2 with e2; rw [e2]; exact hg
end
end Go.Proofs.Ytgbipfohcailnaa
/- Maps of terms as values: products, sums, polynomials of them; slices of maps. -/
namespace Go.Proofs.Ytgbipfohcailnaa
set_option linter.unusedVariables false
set_option linter.unusedSimpArgs false
open Go.RowKit

/-- Block b is a map of terms that reads as x, with keys within E. -/
def TV (w : World) (b : Nat) (x : LP) (E : Nat) : Prop := ∃ T, MapI w b T ∧ LP.mk T = x ∧ ∀ p ∈ T, p.1.natAbs ≤ E
theorem TV.lt {w : World} {b : Nat} {x : LP} {E : Nat} (h : TV w b x E) : b < w.heap.size := by obtain ⟨T, h, _⟩ := h; exact h.lt
theorem TV.mono {w : World} {b : Nat} {x : LP} {E E' : Nat} (h : TV w b x E) (he : E ≤ E') : TV w b x E' := by
  obtain ⟨T, h1, h2, h3⟩ := h; exact ⟨T, h1, h2, fun p hp => Nat.le_trans (h3 p hp) he⟩
theorem TV.same {w w' : World} {b : Nat} {x : LP} {E : Nat} (h : TV w b x E) (hb : w'.heap[b]? = w.heap[b]?) : TV w' b x E := by
  obtain ⟨T, h1, h2, h3⟩ := h
  refine ⟨T, ⟨?_, h1.nodup⟩, h2, h3⟩
  obtain ⟨D, ⟨es, clock, hbl, r1⟩, r⟩ := h1.dict.own
  exact ⟨⟨D, ⟨es, clock, hb.trans hbl, r1⟩, r⟩⟩
theorem TV.below {w w' : World} {b : Nat} {x : LP} {E : Nat} (h : TV w b x E) (hb : Below w.heap.size w w') : TV w' b x E := h.same (hb.block b h.lt)
theorem TV.ne_cells {w : World} {b g : Nat} {x : LP} {E : Nat} {cs : Array Value} {t : TypeId} {fr : Nat × Nat} (h : TV w b x E) (hg : w.heap[g]? = some (.cells cs t fr)) : b ≠ g := by
  obtain ⟨T, h1, _, _⟩ := h
  obtain ⟨D, ⟨es, clock, hbl, r1⟩, r⟩ := h1.dict.own
  rintro rfl
  rw [hbl] at hg
  cases hg
/-- A new map that reads as x. -/
def GivesV (w : World) (x : LP) (E : Nat) (e : Ending) (w' : World) : Prop := ∃ b, e = .returned (.map (some b)) ∧ w.heap.size ≤ b ∧ TV w' b x E ∧ Below w.heap.size w w'
theorem GivesT.v {w : World} {x : LP} {E : Nat} {e : Ending} {w' : World} (h : GivesT w x E e w') : GivesV w x E e w' := by
  obtain ⟨b, o, h1, h2, h3, h4, h5, h6⟩ := h
  exact ⟨b, h1, h2, ⟨o, h3, h4, h5⟩, h6⟩
def CB (x : LP) (V : Nat) : Prop := ∀ k, (LP.co x k).natAbs ≤ V
theorem TV.vals {w : World} {b : Nat} {T : List Tm} (h : MapI w b T) {V : Nat} (hc : CB (LP.mk T) V) : ∀ p ∈ T, p.2.natAbs ≤ V := fun p hp => by
  have h2 := hc p.1
  rw [LP.co_mk, h.val (x := p.1) (c := p.2) hp] at h2
  exact h2
theorem tv_mul {w : World} {a b : Nat} {x y : LP} {Ea Eb Va Vb : Nat} (hx : TV w a x Ea) (hy : TV w b y Eb) (hcx : CB x Va) (hcy : CB y Vb) (hE : Ea + Eb ≤ 400000) (hV : (2 * Ea + 1) * (Va * Vb) ≤ 4000000000000000000) :
    Calls Try.prog 22 #[.map (some a), .map (some b)] w (GivesV w (x * y) (Ea + Eb)) := by
  obtain ⟨S, hs, rfl, hsk⟩ := hx
  obtain ⟨T, ht, rfl, htk⟩ := hy
  refine (tmul_any a b S T Ea Eb (Ea + Eb) Va Vb (Nat.le_refl _) hE (Nat.le_trans (Nat.mul_le_mul_right _ (nodup_leT hs.nodup hsk)) hV) w hs ht hsk htk (TV.vals hs hcx) (TV.vals ht hcy)).mono fun e w' h => h.v
theorem tv_plus {w : World} {a b : Nat} {x y : LP} {E : Nat} (hx : TV w a x E) (hy : TV w b y E) (hcx : CB x 4000000000000000000) (hcy : CB y 4000000000000000000) (hE : E ≤ 400000) :
    Calls Try.prog 23 #[.map (some a), .map (some b), .int .i64 1] w (GivesV w (x + y) E) := by
  obtain ⟨S, hs, rfl, hsk⟩ := hx
  obtain ⟨T, ht, rfl, htk⟩ := hy
  refine (plus_any a b S T 1 (.inl rfl) E hE w hs ht hsk htk (TV.vals hs hcx) (TV.vals ht hcy)).mono fun e w' h => ?_
  rw [LP.term_one, CR.one_mul] at h
  exact h.v
/-- A map as an item. -/
def QT (E : Nat) : RdI LP := fun K w us x => ∃ b, us = [.map (some b)] ∧ K b ∧ TV w b x E
theorem QT_ok (E : Nat) : RdOk (QT E) := ⟨fun hk hs ⟨b, e, hb, h⟩ => ⟨b, e, hb, h.same (hk b hb)⟩, fun hk ⟨b, e, hb, h⟩ => ⟨b, e, hk b h.lt hb, h⟩⟩
/-- A polynomial as an item. -/
def QP : RdI Po := fun K w us p => ∃ B m d, us = [.int .i64 p.1, .slice B m d] ∧ SLK K w B m d p.2 ∧ (Lit.int .i64 p.1).wf = true
theorem QP_ok : RdOk QP := ⟨fun hk hs ⟨B, m, d, e, h, hw⟩ => ⟨B, m, d, e, h.keep hk hs, hw⟩, fun hk ⟨B, m, d, e, h, hw⟩ => ⟨B, m, d, e, h.mono hk, hw⟩⟩
theorem SPo.rd {w : World} {A : Option Addr} {n c : Nat} {ps : List Po} (h : SPo w A n c ps) : Rd QP 2 w A n c ps :=
  ⟨h.len, h.small, h.nil, h.cap, fun hn => by
    obtain ⟨ad, e, hl, hc⟩ := h.mem hn
    refine ⟨ad, e, hl, hl, fun j hj => ?_⟩
    obtain ⟨B, m, d, h1, h2, h3, h4⟩ := hc j (by rw [← h.len]; exact hj)
    have ed : ps.getD j (0, []) = ps[j] := by simp [List.getD, List.getElem?_eq_getElem hj]
    rw [ed] at h1 h3 h4
    have hsp : ∃ v, w.cell? ⟨(ad.add (j * 2)).block, (ad.add (j * 2)).off, none⟩ = some v ∧ v = .int .i64 ps[j].1 := by
      refine ⟨_, ?_, rfl⟩
      have e2 : w.cell? (ad.add (j * 2)) = some (.int .i64 ps[j].1) := h1
      unfold World.cell? at e2 ⊢
      show (match w.heap[(ad.add (j * 2)).block]? with | some (.cells c _ _) => if (none : Option _).isSome then none else c[(ad.add (j * 2)).off]? | _ => none) = _
      split at e2
      · next hq => rw [hq]; split at e2; · cases e2
                   · exact e2
      · cases e2
    obtain ⟨v, hv, rfl⟩ := hsp
    refine ⟨[.int .i64 ps[j].1, .slice B m d], rfl, h1, fun i hi => ?_, B, m, d, rfl, h3.k, h4⟩
    rcases Nat.lt_or_ge i 1 with hi1 | hi1
    · obtain rfl : i = 0 := by omega
      exact hv
    · obtain rfl : i = 1 := by omega
      exact h2⟩
theorem Rd.spo {w : World} {A : Option Addr} {n c : Nat} {ps : List Po} (h : Rd QP 2 w A n c ps) : SPo w A n c ps :=
  ⟨h.len, h.small, h.nil, h.cap, fun hn => by
    obtain ⟨ad, e, hl, _, hc⟩ := h.mem hn
    refine ⟨ad, e, hl, fun j hj => ?_⟩
    have hj2 : j < ps.length := by rw [h.len]; exact hj
    obtain ⟨us, h1, h0, h2, B, m, d, e3, h3, h4⟩ := hc j hj2
    have ed : ps.getD j (0, []) = ps[j] := by simp [List.getD, List.getElem?_eq_getElem hj2]
    subst e3
    rw [ed]
    exact ⟨B, m, d, h0, h2 1 (by omega), h3.sl, h4⟩⟩
theorem SPP.rd {w : World} {A : Option Addr} {n c : Nat} {pss : List (List Po)} (h : SPP w A n c pss) : Rd (QS QP 2) 1 w A n c pss :=
  ⟨h.len, h.small, h.nil, h.cap, fun hn => by
    obtain ⟨ad, e, hl, hc⟩ := h.mem hn
    refine ⟨ad, e, hl, hl, fun j hj => ?_⟩
    obtain ⟨B, m, d, h1, h2⟩ := hc j (by rw [← h.len]; exact hj)
    have ed : pss.getD j [] = pss[j] := by simp [List.getD, List.getElem?_eq_getElem hj]
    rw [ed] at h2
    refine ⟨[.slice B m d], rfl, by rw [Nat.mul_one]; exact h1, fun i hi => ?_, B, m, d, rfl, h2.rd⟩
    obtain rfl : i = 0 := by omega
    have e2 : w.cell? (ad.add (j * 1)) = some (.slice B m d) := by rw [Nat.mul_one]; exact h1
    show w.cell? ⟨(ad.add (j * 1)).block, (ad.add (j * 1)).off, none⟩ = some (.slice B m d)
    unfold World.cell? at e2 ⊢
    show (match w.heap[(ad.add (j * 1)).block]? with | some (.cells c _ _) => if (none : Option _).isSome then none else c[(ad.add (j * 1)).off]? | _ => none) = _
    split at e2
    · next hq => rw [hq]; split at e2; · cases e2
                 · exact e2
    · cases e2⟩
theorem Rd.spp {w : World} {A : Option Addr} {n c : Nat} {pss : List (List Po)} (h : Rd (QS QP 2) 1 w A n c pss) : SPP w A n c pss :=
  ⟨h.len, h.small, h.nil, h.cap, fun hn => by
    obtain ⟨ad, e, hl, _, hc⟩ := h.mem hn
    refine ⟨ad, e, hl, fun j hj => ?_⟩
    have hj2 : j < pss.length := by rw [h.len]; exact hj
    obtain ⟨us, h1, h0, h2, B, m, d, e3, h3⟩ := hc j hj2
    have ed : pss.getD j [] = pss[j] := by simp [List.getD, List.getElem?_eq_getElem hj2]
    subst e3
    rw [ed]
    rw [Nat.mul_one] at h0
    exact ⟨B, m, d, h0, Rd.spo h3⟩⟩
end Go.Proofs.Ytgbipfohcailnaa
