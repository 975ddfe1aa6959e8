/- timbref1.Split; the walk's laws for a map of terms. -/
import Derived.Test.YtgmjighgncpefaaTmap
import Derived.Test.YtgmjighgncpefaaPoC
import Derived.Test.YtgmjighgncpefaaBase
import Derived.Deep.DeepCutAuto
namespace Go.Proofs.Ytgmjighgncpefaa
set_option linter.unusedVariables false
set_option linter.unusedSimpArgs false
open Go.RowKit Go.Maps

theorem ut : Try.prog.underlying 35 = some (.map 3 3) := Try.underlying35
theorem MapI.setCell {w : World} {b : Nat} {o : List Tm} (h : MapI w b o) {g : Addr} (hg : b ≠ g.block) (v : Value) : MapI (w.setCell g v) b o := ⟨h.dict.setCell hg v, h.nodup⟩
/-- What is in a map of terms is the coefficient. -/
theorem MapI.val {w : World} {b : Nat} {o : List Tm} (h : MapI w b o) {x c : Int} (hm : (x, c) ∈ o) : coefT o x = c := by rw [coefT_look h.nodup, lookT_of_mem h.nodup hm]; rfl
section
variable (w : World) {ops : Array Oper} {rest : List Oper} {o : Oper} {a : Act} {Q : Exit → Act → World → Prop}
theorem wpList_lookI (hg : o.guard = none) (m x : Operand) (t : TypeId) (hop : o.op = Op.lookup t m x false) (ht : Try.prog.underlying t = some (.map 3 3)) (b : Nat) (T : List Tm) (y : Int) (hm : a.eval m = .map (some b)) (h : MapI w b T) (hx : a.eval x = .int .i64 y) (hy : (Lit.int .i64 y).wf = true)
    (hK : wpList Try.prog ops Q rest (a.put o.dst (.int .i64 (coefT T y))) w) : wpList Try.prog ops Q (o :: rest) a w := by
  refine wpList_plain hg fun K' hK' => ?_
  unfold Oper.wp
  simp [execOp, hop, hm, hx, h.look ht hy, Result.andThen]
  exact hK' _ _ hK
theorem wpList_putI (hg : o.guard = none) (m x v : Operand) (t : TypeId) (hop : o.op = Op.mapUpdate t m x v) (ht : Try.prog.underlying t = some (.map 3 3)) (b : Nat) (T : List Tm) (y z : Int) (hm : a.eval m = .map (some b)) (h : MapI w b T) (hn : T.length < 1000000) (hx : a.eval x = .int .i64 y) (hv : a.eval v = .int .i64 z) (hy : (Lit.int .i64 y).wf = true)
    (hK : ∀ w', MapI w' b (putT T y z) → w.grownBy w' (some b) → w'.heap.size = w.heap.size → wpList Try.prog ops Q rest (a.put o.dst undef) w') : wpList Try.prog ops Q (o :: rest) a w := by
  refine wpList_plain hg fun K' hK' => ?_
  obtain ⟨w', hrun, r1, r2, r3⟩ := h.store ht hy (v := z) hn
  unfold Oper.wp
  simp [execOp, hop, hm, hx, hv, hrun, Result.andThen]
  exact hK' _ _ (hK w' r1 r2 r3)
theorem wpList_insI (hg : o.guard = none) (m x v : Operand) (t : TypeId) (hop : o.op = Op.insert t m x v) (ht : Try.prog.underlying t = some (.map 3 3)) (b : Nat) (T : List Tm) (y z : Int) (hm : a.eval m = .map (some b)) (h : MapI w b T) (hn : T.length < 1000000) (hx : a.eval x = .int .i64 y) (hv : a.eval v = .int .i64 z) (hy : (Lit.int .i64 y).wf = true)
    (hK : ∀ w', MapI w' b (putT T y z) → w.grownBy w' (some b) → w'.heap.size = w.heap.size → wpList Try.prog ops Q rest (a.put o.dst undef) w') : wpList Try.prog ops Q (o :: rest) a w := by
  refine wpList_plain hg fun K' hK' => ?_
  obtain ⟨w', hrun, r1, r2, r3⟩ := h.store ht hy (v := z) hn
  unfold Oper.wp
  simp [execOp, hop, hm, hx, hv, hrun, Result.andThen]
  exact hK' _ _ (hK w' r1 r2 r3)
end
/-- A new map of terms that reads as x; its keys are not far off. -/
def GivesT (w : World) (x : LP) (E : Nat) (e : Ending) (w' : World) : Prop :=
  ∃ b o, e = .returned (.map (some b)) ∧ w.heap.size ≤ b ∧ MapI w' b o ∧ LP.mk o = x ∧ (∀ p ∈ o, p.1.natAbs ≤ E) ∧ Below w.heap.size w w'
theorem putT_mk {o : List Tm} (hn : (o.map (·.1)).Nodup) {x : LP} (hx : LP.mk o = x) (e v : Int) (c : Int) (hv : v = coefT o e + c) : LP.mk (putT o e v) = x + LP.term e c := LP.ext fun k => by
  subst hx hv
  rw [LP.co_add, LP.co_term, LP.co_mk, LP.co_mk, coefT_put hn]
  by_cases h : k = e
  · rw [if_pos h, if_pos h.symm, h]
  · rw [if_neg h, if_neg (fun e => h e.symm), Int.add_zero]
theorem LP.of_snoc (lo : Int) (cs : List Int) (c : Int) : LP.of lo (cs ++ [c]) = LP.of lo cs + LP.term (lo + cs.length) c := LP.ext fun k => by
  rw [LP.co_add, LP.co_term, LP.co_of, LP.co_of, List.length_append]
  simp only [List.length_singleton]
  by_cases h1 : lo + cs.length = k
  · rw [if_pos h1, if_pos (by omega), if_neg (by omega), Int.zero_add]
    have : (k - lo).toNat = cs.length := by omega
    rw [this]
    simp [List.getD]
  · rw [if_neg h1, Int.add_zero]
    by_cases h2 : lo ≤ k ∧ k < lo + cs.length
    · rw [if_pos h2, if_pos (by omega)]
      have : (k - lo).toNat < cs.length := by omega
      simp [List.getD, List.getElem?_append_left this]
    · rw [if_neg h2, if_neg (by omega)]
theorem LP.term_zero (e : Int) : LP.term e 0 = 0 := LP.ext fun k => by rw [LP.co_term, LP.co_zero]; split <;> rfl

set_option maxRecDepth 100000 in
set_option maxHeartbeats 2000000 in
theorem split_anyE (E : Nat) (la : Int) (A : Option Addr) (n c : Nat) (xs : List Int) (w : World) (ha : SL w A n c xs) (hla : la.natAbs + n ≤ E) (hn : E ≤ 400000) :
    Calls Try.prog 9 #[PV la A n c] w (GivesT w (LP.of la xs) E) := by
  have hmm := @run_makeMap Try.prog
  have hb0 : Below w.heap.size w ((w.alloc (.cells #[.int .i64 la, .slice A n c] 25)).alloc (.map #[] 0)) := ((Below.refl _ _).alloc (Nat.le_refl _) _).alloc (by simp) _
  have HW := hide hb0
  have HA := hide (ha.below hb0)
  have hbk := (Blk.new w 25 #[.int .i64 la, .slice A n c]).alloc (.map #[] 0)
  have hmp := MapI.made (w.alloc (.cells #[.int .i64 la, .slice A n c] 25))
  simp only [World.size_alloc] at hmp
  have HM0 := hide hmp
  have B0 := hide hbk
  have HL := hide ha.il.len
  have HA0 := hide ha
  clear ha hb0 hbk hmp
  go_enter Try.func9, Try.ntmps9
  go_upto_region 2 with fail
  obtain ⟨w0, hw0⟩ : ∃ x, ((w.alloc (.cells #[.int .i64 la, .slice A n c] 25)).alloc (.map #[] 0)) = x := ⟨_, rfl⟩
  rw [hw0] at HW HA HM0 B0 ⊢
  clear hw0
  have hq0 := B0.out.cell 0
  have hq1 := B0.out.cell 1
  simp at hq0 hq1
  go_wp2_with fail
  clear hq0 hq1
  go_loopw [10] (fun iv wr => ∃ (k : Nat) (o : List Tm), k ≤ n ∧ iv = .int .i64 k ∧ MapI wr (w.heap.size + 1) o ∧ LP.mk o = LP.of la (xs.take k) ∧ (∀ p ∈ o, p.1.natAbs ≤ E) ∧ Blk wr w.heap.size 25 #[.int .i64 la, .slice A n c] ∧ Below w.heap.size w wr) (fun iv _ => n - (intOf iv).toNat)
  case atStart => exact ⟨0, [], Nat.zero_le _, rfl, HM0.out, by rw [List.take_zero]; rfl, by simp, B0.out, HW.out⟩
  case round =>
    clear HW HA HM0 B0
    obtain ⟨k, o, hk, rfl, hm, ho, hke, hbk, hbw⟩ := hrel
    have HM := hide hm
    have HO := hide ho
    have HKE := hide hke
    have HBK := hide hbk
    have HBW := hide hbw
    clear hm ho hke hbk hbw
    by_cases hlt : k < n
    · obtain ⟨ad, hA, hal, hac⟩ := (HA0.out.below HBW.out).il.mem (by omega)
      have ck := hac k hlt
      have hq0 := HBK.out.cell 0
      have hq1 := HBK.out.cell 1
      simp at hq0 hq1
      have HT : Hid (xs.take (k + 1) = xs.take k ++ [xs.getD k 0]) := hide (by
        have hkl : k < xs.length := by rw [HL.out]; exact hlt
        rw [List.take_succ_eq_append_getElem hkl]
        simp [List.getD, List.getElem?_eq_getElem hkl])
      have HTL : Hid ((xs.take k).length = k) := hide (by rw [List.length_take, HL.out]; omega)
      obtain ⟨x, hx⟩ : ∃ x, xs.getD k 0 = x := ⟨_, rfl⟩
      rw [hx] at ck HT
      clear hx hac
      subst hA
      have HT2 : Hid (LP.of la (xs.take (k + 1)) = LP.mk o + LP.term (la + k) x) := hide (by rw [HT.out, LP.of_snoc, HTL.out, HO.out])
      by_cases hx0 : x = 0
      · have HT3 : Hid (LP.mk o = LP.of la (xs.take (k + 1))) := hide (by rw [HT2.out, hx0, LP.term_zero, CR.add_zero])
        have f : (x != 0) = false := by simpa using hx0
        clear hx0 HT2 HT HTL
        go_wp2_with fail
        go_roundw
        case rel => exact ⟨k + 1, o, by omega, by go_num, HM.out, HT3.out, HKE.out, HBK.out, HBW.out⟩
        case measure => simp [intOf]; omega
      · have f : (x != 0) = true := by simpa using hx0
        have hwr : IntKind.i64.wrap (la + (k : Int)) = la + k := by rw [IntKind.wrap_i64]; omega
        have hle : o.length < 1000000 := Nat.lt_of_le_of_lt (nodup_leT HM.out.nodup HKE.out) (by omega)
        have hco : coefT o (la + k) = 0 := by
          have h : LP.co (LP.mk o) (la + k) = LP.co (LP.of la (xs.take k)) (la + k) := by rw [HO.out]
          rw [LP.co_mk, LP.co_of_out (.inr (by rw [HTL.out]; omega))] at h
          exact h
        have HT3 : Hid (LP.mk (putT o (la + k) x) = LP.of la (xs.take (k + 1))) := hide (by rw [HT2.out]; exact putT_mk HM.out.nodup rfl _ _ _ (by rw [hco, Int.zero_add]))
        have HWF := hide (wfI (x := la + k) (by omega))
        have HKE2 : Hid (∀ p ∈ putT o (la + k) x, p.1.natAbs ≤ E) := hide (fun p hp => by
          rcases putT_keys _ _ _ p hp with h | h
          · exact HKE.out p h
          · rw [h]; show (la + k).natAbs ≤ E; omega)
        clear hx0 HT2 HT HTL hco
        go_wp2_with (first | (with_reducible show wpList _ _ _ (Oper.mk _ (.mapUpdate _ _ _ _) _ _ _ _ :: _) _ _); refine wpList_putI _ rfl _ _ _ _ rfl ut (w.heap.size + 1) o (la + k) x rfl HM.out hle rfl rfl HWF.out ?_; intro w9 hm9 hg9 hs9)
        have HB9 := hide (HBK.out.grown hg9 (by simp))
        have HW9 := hide (HBW.out.grown hg9 HBW.out.size (by simp))
        clear hg9 hs9
        go_wp2_with fail
        go_roundw
        case rel => exact ⟨k + 1, _, by omega, by go_num, hm9, HT3.out, HKE2.out, HB9.out, HW9.out⟩
        case measure => simp [intOf]; omega
    · have hkn : k = n := by omega
      have HT3 : Hid (LP.mk o = LP.of la xs) := hide (by have := HO.out; rw [List.take_of_length_le (by rw [HL.out]; omega)] at this; exact this)
      subst hkn
      go_wp2_with fail
      go_ret
      exact ⟨_, o, rfl, by omega, HM.out, HT3.out, HKE.out, HBW.out⟩
theorem split_any (la : Int) (A : Option Addr) (n c : Nat) (xs : List Int) (w : World) (ha : SL w A n c xs) (hla : -1000 ≤ la ∧ la ≤ 1000) (hn : n ≤ 200) :
    Calls Try.prog 9 #[PV la A n c] w (GivesT w (LP.of la xs) 1200) := split_anyE 1200 la A n c xs w ha (by omega) (by omega)
end Go.Proofs.Ytgmjighgncpefaa
