/- timbref1.Split, told more: where the keys lie. -/
import Derived.Test.YtbajelbfgekilaaTsp
namespace Go.Proofs.Ytbajelbfgekilaa
set_option linter.unusedVariables false
set_option linter.unusedSimpArgs false
open Go.RowKit Go.Maps

set_option maxRecDepth 100000 in
set_option maxHeartbeats 2000000 in
theorem split_w (la : Int) (A : Option Addr) (n c : Nat) (xs : List Int) (w : World) (ha : SL w A n c xs) (hla : -1000 ≤ la ∧ la ≤ 1000) (hn : n ≤ 200) :
    Calls Try.prog 16 #[PV la A n c] w fun e w' => ∃ b o, e = .returned (.map (some b)) ∧ w.heap.size ≤ b ∧ MapI w' b o ∧ LP.mk o = LP.of la xs ∧ (∀ p ∈ o, la ≤ p.1 ∧ p.1 < la + n) ∧ Below w.heap.size w w' := by
  have hmm := @run_makeMap Try.prog
  have hb0 : Below w.heap.size w ((w.alloc (.cells #[.int .i64 la, .slice A n c] 24)).alloc (.map #[] 0)) := ((Below.refl _ _).alloc (Nat.le_refl _) _).alloc (by simp) _
  have HW := hide hb0
  have HA := hide (ha.below hb0)
  have hbk := (Blk.new w 24 #[.int .i64 la, .slice A n c]).alloc (.map #[] 0)
  have hmp := MapI.made (w.alloc (.cells #[.int .i64 la, .slice A n c] 24))
  simp only [World.size_alloc] at hmp
  have HM0 := hide hmp
  have B0 := hide hbk
  have HL := hide ha.il.len
  have HA0 := hide ha
  clear ha hb0 hbk hmp
  go_enter Try.func16, Try.ntmps16
  go_upto_region 2 with fail
  obtain ⟨w0, hw0⟩ : ∃ x, ((w.alloc (.cells #[.int .i64 la, .slice A n c] 24)).alloc (.map #[] 0)) = x := ⟨_, rfl⟩
  rw [hw0] at HW HA HM0 B0 ⊢
  clear hw0
  have hq0 := B0.out.cell 0
  have hq1 := B0.out.cell 1
  simp at hq0 hq1
  go_wp2_with fail
  clear hq0 hq1
  go_loopw [10] (fun iv wr => ∃ (k : Nat) (o : List Tm), k ≤ n ∧ iv = .int .i64 k ∧ MapI wr (w.heap.size + 1) o ∧ LP.mk o = LP.of la (xs.take k) ∧ (∀ p ∈ o, la ≤ p.1 ∧ p.1 < la + k) ∧ Blk wr w.heap.size 24 #[.int .i64 la, .slice A n c] ∧ Below w.heap.size w wr) (fun iv _ => n - (intOf iv).toNat)
  case atStart => exact ⟨0, [], Nat.zero_le _, rfl, HM0.out, by rw [List.take_zero]; rfl, by simp, B0.out, HW.out⟩
  case round =>
    clear HW HA HM0 B0
    obtain ⟨k, o, hk, rfl, hm, ho, hke, hbk, hbw⟩ := hrel
    have HM := hide hm
    have HO := hide ho
    have HKE := hide hke
    have HBK := hide hbk
    have HBW := hide hbw
    clear hm ho hke hbk hbw
    by_cases hlt : k < n
    · obtain ⟨ad, hA, hal, hac⟩ := (HA0.out.below HBW.out).il.mem (by omega)
      have ck := hac k hlt
      have hq0 := HBK.out.cell 0
      have hq1 := HBK.out.cell 1
      simp at hq0 hq1
      have HT : Hid (xs.take (k + 1) = xs.take k ++ [xs.getD k 0]) := hide (by
        have hkl : k < xs.length := by rw [HL.out]; exact hlt
        rw [List.take_succ_eq_append_getElem hkl]
        simp [List.getD, List.getElem?_eq_getElem hkl])
      have HTL : Hid ((xs.take k).length = k) := hide (by rw [List.length_take, HL.out]; omega)
      obtain ⟨x, hx⟩ : ∃ x, xs.getD k 0 = x := ⟨_, rfl⟩
      rw [hx] at ck HT
      clear hx hac
      subst hA
      have HT2 : Hid (LP.of la (xs.take (k + 1)) = LP.mk o + LP.term (la + k) x) := hide (by rw [HT.out, LP.of_snoc, HTL.out, HO.out])
      by_cases hx0 : x = 0
      · have HT3 : Hid (LP.mk o = LP.of la (xs.take (k + 1))) := hide (by rw [HT2.out, hx0, LP.term_zero, CR.add_zero])
        have f : (x != 0) = false := by simpa using hx0
        clear hx0 HT2 HT HTL
        go_wp2_with fail
        go_roundw
        case rel => exact ⟨k + 1, o, by omega, by go_num, HM.out, HT3.out, (fun p hp => by have := HKE.out p hp; omega), HBK.out, HBW.out⟩
        case measure => simp [intOf]; omega
      · have f : (x != 0) = true := by simpa using hx0
        have hwr : IntKind.i64.wrap (la + (k : Int)) = la + k := by rw [IntKind.wrap_i64]; omega
        have hle : o.length < 1000000 := Nat.lt_of_le_of_lt (nodup_leT (E := 1200) HM.out.nodup (fun p hp => by have := HKE.out p hp; omega)) (by omega)
        have hco : coefT o (la + k) = 0 := by
          have h : LP.co (LP.mk o) (la + k) = LP.co (LP.of la (xs.take k)) (la + k) := by rw [HO.out]
          rw [LP.co_mk, LP.co_of_out (.inr (by rw [HTL.out]; omega))] at h
          exact h
        have HT3 : Hid (LP.mk (putT o (la + k) x) = LP.of la (xs.take (k + 1))) := hide (by rw [HT2.out]; exact putT_mk HM.out.nodup rfl _ _ _ (by rw [hco, Int.zero_add]))
        have HWF := hide (wfI (x := la + k) (by omega))
        have HKE2 : Hid (∀ p ∈ putT o (la + k) x, la ≤ p.1 ∧ p.1 < la + (k + 1 : Nat)) := hide (fun p hp => by
          rcases putT_keys _ _ _ p hp with h | h
          · have := HKE.out p h; omega
          · rw [h]; show la ≤ la + (k : Int) ∧ la + (k : Int) < la + (k + 1 : Nat); omega)
        clear hx0 HT2 HT HTL hco
        go_wp2_with (first | (with_reducible show wpList _ _ _ (Oper.mk _ (.mapUpdate _ _ _ _) _ _ _ _ :: _) _ _); refine wpList_putI _ rfl _ _ _ _ rfl ut (w.heap.size + 1) o (la + k) x rfl HM.out hle rfl rfl HWF.out ?_; intro w9 hm9 hg9 hs9)
        have HB9 := hide (HBK.out.grown hg9 (by simp))
        have HW9 := hide (HBW.out.grown hg9 HBW.out.size (by simp))
        clear hg9 hs9
        go_wp2_with fail
        go_roundw
        case rel => exact ⟨k + 1, _, by omega, by go_num, hm9, HT3.out, HKE2.out, HB9.out, HW9.out⟩
        case measure => simp [intOf]; omega
    · have hkn : k = n := by omega
      have HT3 : Hid (LP.mk o = LP.of la xs) := hide (by have := HO.out; rw [List.take_of_length_le (by rw [HL.out]; omega)] at this; exact this)
      subst hkn
      go_wp2_with fail
      go_ret
      exact ⟨_, o, rfl, by omega, HM.out, HT3.out, HKE.out, HBW.out⟩
/-- Distinct keys from a window are no more than it is wide. -/
theorem nodup_leW {o : List Tm} {lo : Int} {n : Nat} (h : (o.map (·.1)).Nodup) (hk : ∀ p ∈ o, lo ≤ p.1 ∧ p.1 < lo + n) : o.length ≤ n := by
  have h1 : (o.map fun p : Tm => (p.1 - lo).toNat).Nodup := by
    rw [show (o.map fun p : Tm => (p.1 - lo).toNat) = (o.map (·.1)).map fun x : Int => (x - lo).toNat by rw [List.map_map]; rfl]
    unfold List.Nodup at h ⊢
    rw [List.pairwise_map]
    refine h.imp_of_mem fun {a b} ha hb hne e => hne ?_
    obtain ⟨p, hp, rfl⟩ := List.mem_map.1 ha
    obtain ⟨q, hq, rfl⟩ := List.mem_map.1 hb
    have := hk p hp
    have := hk q hq
    have e : (p.1 - lo).toNat = (q.1 - lo).toNat := e
    show p.1 = q.1
    omega
  have h2 := nodup_length_le n _ h1 fun x hx => by
    obtain ⟨p, hp, rfl⟩ := List.mem_map.1 hx
    have := hk p hp
    show (p.1 - lo).toNat < n
    omega
  simpa using h2
end Go.Proofs.Ytbajelbfgekilaa
