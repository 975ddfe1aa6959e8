/- Several texts of the walk in one. -/
import Derived.Test.YtihpmdfeonphpaaPart1
import Derived.Test.YtihpmdfeonphpaaBase
import Derived.Deep.DeepCutAuto
import Derived.Deep.LoopGhost
/- slices.Delete of two elements of a slice that the call owns. -/
namespace Go.Proofs.Ytihpmdfeonphpaa
set_option linter.unusedVariables false
set_option linter.unusedSimpArgs false
open Go.RowKit

/-- The list without its elements i and i + 1. -/
def without2 (xs : List Int) (i : Nat) : List Int := xs.take i ++ xs.drop (i + 2)
theorem without2_length {xs : List Int} {i : Nat} (h : i + 2 ≤ xs.length) : (without2 xs i).length = xs.length - 2 := by simp [without2]; omega
theorem deleted2 {xs : List Int} {n i : Nat} (hl : xs.length = n) (hi : i + 2 ≤ n) : (((setMany xs i (xs.drop (i + 2))).set (n - 2) 0).set (n - 2 + 1) 0).take (n - 2) = without2 xs i := by
  have hx : (setMany xs i (xs.drop (i + 2))).length = n := by rw [setMany_length, hl]
  apply List.ext_getElem?
  intro j
  by_cases hj : j < n - 2
  · rw [List.getElem?_take, if_pos hj, List.getElem?_set, if_neg (by omega), List.getElem?_set, if_neg (by omega)]
    have h1 := setMany_getD (xs.drop (i + 2)) xs i j (by simp; omega)
    have h2 : ((setMany xs i (xs.drop (i + 2)))[j]?) = some ((setMany xs i (xs.drop (i + 2))).getD j 0) := by
      simp [List.getD, List.getElem?_eq_getElem (show j < (setMany xs i (xs.drop (i + 2))).length by omega)]
    rw [h2, h1]
    have h3 : (without2 xs i)[j]? = some ((without2 xs i).getD j 0) := by
      simp [List.getD, List.getElem?_eq_getElem (show j < (without2 xs i).length by rw [without2_length (by omega)]; omega)]
    rw [h3]
    congr 1
    by_cases hji : j < i
    · rw [if_neg (by omega)]
      simp only [without2, List.getD, List.getElem?_append, List.length_take, List.getElem?_take]
      rw [if_pos (by omega), if_pos hji]
    · rw [if_pos (by simp; omega)]
      simp only [without2, List.getD, List.getElem?_append, List.length_take, List.getElem?_drop]
      rw [if_neg (by omega), show min i xs.length = i from by omega]
  · rw [List.getElem?_eq_none (by simp; omega), List.getElem?_eq_none (by rw [without2_length (by omega)]; omega)]

theorem run_clear_two (w : World) (ty : TypeId) (b o cap : Nat) {v v' : Value} (hc : w.cell? ⟨b, o, none⟩ = some v) (hf : w.frozen? ⟨b, o, none⟩ = false) (hc' : (w.setCell ⟨b, o, none⟩ (.int .i64 0)).cell? ⟨b, o + 1, none⟩ = some v') (hf' : (w.setCell ⟨b, o, none⟩ (.int .i64 0)).frozen? ⟨b, o + 1, none⟩ = false) :
    (Builtin.clear_ #[22] ty #[.slice (some ⟨b, o, none⟩) 2 cap]).run Try.prog w = .ok (.tuple #[]) ((w.setCell ⟨b, o, none⟩ (.int .i64 0)).setCell ⟨b, o + 1, none⟩ (.int .i64 0)) := by
  obtain ⟨i0, hi0, hz0, hz1, hz2⟩ := info_parts int_info
  have e : (⟨b, o, none⟩ : Addr).add 1 = ⟨b, o + 1, none⟩ := by simp [Addr.add]
  simp [Builtin.clear_, run_underlying Try.underlying22, zeroValue, typeInfo, hi0, hz0, storeCells, Builtin.zeroCells, go_sem, hc, hf, e, hc', hf']
theorem run_clear_tail2 (w : World) (ty : TypeId) {base g n c i m d : Nat} {xs : List Int} (h : OwnI w base (some ⟨g, 0, none⟩) n c xs) (hi : i + 2 = n) (hm : m = 2) :
    (Builtin.clear_ #[22] ty #[.slice (some ⟨g, i, none⟩) m d]).run Try.prog w = .ok (.tuple #[]) ((w.setCell ⟨g, i, none⟩ (.int .i64 0)).setCell ⟨g, i + 1, none⟩ (.int .i64 0)) := by
  subst hm
  exact run_clear_two w ty g i d (h.cell (by omega)) (h.frozen i) ((h.set_ i 0).cell (by omega)) ((h.set_ i 0).frozen (i + 1))

set_option maxHeartbeats 1600000 in
set_option maxRecDepth 1000000 in
theorem delete2_any (base g n c i : Nat) (xs : List Int) (w : World) (h : OwnI w base (some ⟨g, 0, none⟩) n c xs) (hi : i + 2 ≤ n) :
    Calls Try.prog 48 #[.slice (some ⟨g, 0, none⟩) n c, .int .i64 i, .int .i64 ((i : Int) + 2)] w fun e w' => e = .returned (.slice (some ⟨g, 0, none⟩) (n - 2) c) ∧ OwnI w' base (some ⟨g, 0, none⟩) (n - 2) c (without2 xs i) ∧ w.grownBy w' (some g) := by
  obtain ⟨i0, hi0, hz0, hz1, hz2⟩ := info_parts int_info
  have hcap := h.cap
  have hsm := h.small
  have HL := hide h.len
  have hcm : c ≤ 9223372036854775807 := by
    rcases h.own.2 with ⟨hv, _⟩ | ⟨g', cap, cur, hv, _, _, _, hcm, _⟩
    · cases hv
    · simp only [Value.slice.injEq, true_and] at hv
      obtain ⟨_, rfl⟩ := hv
      unfold maxLen at hcm
      exact hcm
  obtain ⟨B, hB⟩ : ∃ B : Addr, (if c = i + 2 then some (⟨g, 0, none⟩ : Addr) else some ⟨g, i + 2, none⟩) = some B := by
    by_cases h : c = i + 2
    · exact ⟨_, if_pos h⟩
    · exact ⟨_, if_neg h⟩
  have hnews : Hid (∀ j u, ((xs.drop (i + 2)).map (Value.int .i64))[j]? = some u → w.drew.cell? (B.add j) = some u) := by
    intro j u hu
    have ht := h.il.tail (k := i + 2) (d := c) (by omega) hcap
    rw [Nat.zero_add, hB] at ht
    have hj : j < n - (i + 2) := by
      have := (List.getElem?_eq_some_iff.1 hu).1
      simp at this
      have := HL.out
      omega
    obtain ⟨ad, e, hc⟩ := ht.at_ hj
    injection e with e
    subst e
    show w.cell? _ = _
    rw [hc, ← hu]
    simp [List.getD, show i + 2 + j < xs.length by have := HL.out; omega]
  have s1 : Hid (((xs.drop (i + 2)).map (Value.int .i64)).length = (n - (i + 2)) * 1) := by
    have := HL.out
    show _ = _
    simp
    omega
  have s2 : Hid (∀ u ∈ (xs.drop (i + 2)).map (Value.int .i64), u.oneCell' = true) := ints_oneCell _ _
  have s3 : Hid (∀ j, j < ((xs.drop (i + 2)).map (Value.int .i64)).length → (w.drew.cell? ⟨g, 0 + i * 1 + j, none⟩).isSome = true ∧ w.drew.frozen? ⟨g, 0 + i * 1 + j, none⟩ = false) := by
    intro j hj
    rw [s1.out] at hj
    refine ⟨?_, h.frozen _⟩
    show (w.cell? _).isSome = true
    rw [h.cell (by omega)]
    rfl
  have hic : i ≤ c := by omega
  have hwr : IntKind.i64.wrap ((i : Int) + 2) = (i : Int) + 2 := by rw [IntKind.wrap_i64]; omega
  have hp0 : (0 : Int) ≤ (i : Int) + 2 := by omega
  have hp1 : (i : Int) + 2 ≤ (n : Int) := by omega
  have hp2 : ((i : Int) + 2).toNat = i + 2 := by omega
  have HO : Hid (OwnI (w.drew.setCells g i (List.drop (i + 2) (List.map (Value.int .i64) xs))) base (some ⟨g, 0, none⟩) n c (setMany xs i (xs.drop (i + 2)))) := by
    have h1 : OwnI w.drew base (some ⟨g, 0, none⟩) n c xs := h.drew
    rw [← List.map_drop]
    exact h1.setCells _ i
  have HG : Hid (w.grownBy (w.drew.setCells g i (List.drop (i + 2) (List.map (Value.int .i64) xs))) (some g)) := grownBy_setCells g _ _ _ _ (grownBy_drew (World.grownBy.refl w _))
  have hclr := run_clear_tail2 (w.drew.setCells g i (List.drop (i + 2) (List.map (Value.int .i64) xs))) 0 (i := i + (n - (i + 2))) (m := n - (i + (n - (i + 2)))) (d := c - (i + (n - (i + 2)))) HO.out (by omega) (by omega)
  clear h
  go_enter Try.func48, Try.ntmps48
  go_wp2_with fail
  go_region_law (refine step_append_room rfl (.tmp 22) (.tmp 25) 22 rfl 3 i0 1 Try.underlying22 hi0 hz1 g 0 i c (by simp [Act.eval, Act.put]) B (n - (i + 2)) (c - (i + 2)) ((xs.drop (i + 2)).map (Value.int .i64)) (by simp [Act.eval, Act.put]) s1.out hnews.out s2.out (by omega) s3.out ?_)
  go_wp2
  go_ret
  have e1 : i + (n - (i + 2)) = n - 2 := by omega
  rw [e1]
  refine ⟨rfl, ?_, ?_⟩
  · have h2 := ((HO.out.set_ (n - 2) 0).set_ (n - 2 + 1) 0).shrink (m := n - 2) (by omega) (by omega)
    rw [deleted2 HL.out hi] at h2
    exact h2
  · exact grownBy_setCells g [Value.int .i64 0, Value.int .i64 0] (n - 2) _ _ HG.out
end Go.Proofs.Ytihpmdfeonphpaa
/- timbref1.Short: the reduced form. -/
namespace Go.Proofs.Ytihpmdfeonphpaa
set_option linter.unusedVariables false
set_option linter.unusedSimpArgs false
open Go.RowKit

/-- The word, reduced from letter k on. -/
def shK (xs : List Int) (k : Nat) : List Int := xs.take k ++ nf (xs.drop k)
theorem shK_succ {xs : List Int} {i : Nat} (h : i < xs.length) : shK xs (i + 1) = xs.take i ++ xs.getD i 0 :: nf (xs.drop (i + 1)) := by
  unfold shK
  rw [List.take_succ_eq_append_getElem h, List.append_assoc]
  simp [List.getD, List.getElem?_eq_getElem h]
theorem shK_cns {xs : List Int} {i : Nat} (h : i < xs.length) : shK xs i = xs.take i ++ cns (xs.getD i 0) (nf (xs.drop (i + 1))) := by
  unfold shK
  rw [List.drop_eq_getElem_cons h]
  rw [show xs.getD i 0 = xs[i] by simp [List.getD, List.getElem?_eq_getElem h]]
  rfl
theorem getD_mid (a : List Int) (x : Int) (t : List Int) : (a ++ x :: t).getD a.length 0 = x := by simp [List.getD]
theorem getD_mid2 (a : List Int) (x y : Int) (t : List Int) : (a ++ x :: y :: t).getD (a.length + 1) 0 = y := by
  simp only [List.getD]
  rw [List.getElem?_append_right (by omega)]
  simp
theorem without2_mid (a : List Int) (x y : Int) (t : List Int) : without2 (a ++ x :: y :: t) a.length = a ++ t := by
  unfold without2
  rw [List.take_left, List.drop_append, List.drop_of_length_le (by omega), show a.length + 2 - a.length = 2 by omega]
  simp

set_option maxRecDepth 100000 in
set_option maxHeartbeats 2000000 in
theorem short_any (A : Option Addr) (n c : Nat) (xs : List Int) (w : World) (ha : IL w A n xs) (hc : A = none → n = 0 ∧ c = 0) (hb : ∀ x ∈ xs, -1000 ≤ x ∧ x ≤ 1000) :
    Calls Try.prog 34 #[.slice A n c] w (GivesOwn w (nf xs)) := by
  have hl := ha.len
  have hna := ha.small
  have HL := hide hl
  have HB := hide hb
  have HC := hide (clone_any A n c xs w ha hc)
  clear ha hl hb hc
  go_enter Try.func34, Try.ntmps34
  go_wp2_with fail
  refine HC.out.mono ?_
  rintro e w1 ⟨A1, n1, c1, rfl, ho1, hb1⟩
  have hn1 : n1 = n := by rw [← ho1.len]; exact HL.out
  subst hn1
  have HS : Hid (OwnI w1 w.heap.size A1 n1 c1 (shK xs (n1 - 1))) := by
    have : shK xs (n1 - 1) = xs := by
      by_cases h0 : n1 = 0
      · rw [List.eq_nil_of_length_eq_zero (show xs.length = 0 by rw [HL.out]; exact h0)]; simp [shK, nf, act]
      · have hlt : n1 - 1 < xs.length := by rw [HL.out]; omega
        unfold shK
        rw [List.drop_eq_getElem_cons hlt, List.drop_of_length_le (by rw [HL.out]; omega)]
        rw [show nf [xs[n1 - 1]] = [xs[n1 - 1]] from rfl]
        rw [← List.take_succ_eq_append_getElem hlt, List.take_of_length_le (by rw [HL.out]; omega)]
    rw [this]
    exact ho1
  have HST : Hid ((n1 : Int) - 2 = ((n1 - 1 : Nat) : Int) - 1 ∨ ((n1 : Int) - 2 < 0 ∧ n1 - 1 = 0)) := hide (by omega)
  clear ho1
  go_wp2_with fail
  go_loopw [0, 3] (fun sv iv wr => ∃ (m k : Nat) (j : Int), sv = .slice A1 m c1 ∧ iv = .int .i64 j ∧ k ≤ n1 - 1 ∧ -2 ≤ j ∧ j ≤ 17592186044416 ∧ Hid (j = (k : Int) - 1 ∨ (j < 0 ∧ k = 0)) ∧ Hid (OwnI wr w.heap.size A1 m c1 (shK xs k)) ∧ Below w.heap.size w wr) (fun _ iv _ => (intOf iv + 1).toNat)
  case atStart => exact ⟨n1, n1 - 1, (n1 : Int) - 2, rfl, rfl, by omega, by omega, by omega, HST.out, HS.out, hb1⟩
  case round =>
    clear HS HST hb1
    obtain ⟨m, k, j, rfl, rfl, hk, hj0, hj1, HJ, HO, hb⟩ := hrel
    by_cases hneg : j < 0
    · have HE : Hid (OwnI wr w.heap.size A1 m c1 (nf xs)) := by
        have hk0 : k = 0 := by have := HJ.out; omega
        have := HO.out
        rw [hk0] at this
        exact this
      go_wp2
      go_ret
      exact ⟨_, _, _, rfl, HE.out, hb⟩
    · obtain ⟨i, rfl⟩ : ∃ i : Nat, j = i := ⟨j.toNat, by omega⟩
      have hki : k = i + 1 := by have := HJ.out; omega
      have hil : i < xs.length := by rw [HL.out]; omega
      have HSU := hide (shK_succ hil)
      have HCN := hide (shK_cns hil)
      have hm : xs.getD i 0 ∈ xs := by
        rw [show xs.getD i 0 = xs[i] by simp [List.getD, List.getElem?_eq_getElem hil]]
        exact List.getElem_mem _
      obtain ⟨hx0, hx1⟩ := HB.out _ hm
      have htl : (xs.take i).length = i := by rw [List.length_take]; omega
      have hmem : ∀ y ∈ nf (xs.drop (i + 1)), -1000 ≤ y ∧ y ≤ 1000 := fun y hy => HB.out y (List.mem_of_mem_drop (nf_mem hy))
      have HM := hide hmem
      obtain ⟨x, hx⟩ : ∃ x, xs.getD i 0 = x := ⟨_, rfl⟩
      obtain ⟨t, ht⟩ : ∃ t, nf (xs.drop (i + 1)) = t := ⟨_, rfl⟩
      obtain ⟨a, ha⟩ : ∃ a, xs.take i = a := ⟨_, rfl⟩
      rw [hx, ht, ha] at HSU HCN
      rw [hx] at hx0 hx1
      rw [ht] at HM
      rw [ha] at htl
      rw [hki, HSU.out] at HO
      have hml := HO.out.len
      have hms := HO.out.small
      rw [List.length_append, List.length_cons, htl] at hml
      obtain ⟨g, rfl, hg1, hg2⟩ := HO.out.form (by omega)
      have HNJ : Hid ((i : Int) - 1 = (i : Int) - 1) := rfl
      have hin : i ≤ n1 - 1 := by omega
      clear hm hmem hx ht ha hki hil HJ HSU
      cases t with
      | nil =>
        have HN : Hid (OwnI wr w.heap.size (some ⟨g, 0, none⟩) m c1 (shK xs i)) := by rw [HCN.out]; exact HO.out
        have hmi : m = i + 1 := by rw [← hml]; rfl
        subst hmi
        have hg : decide (((i : Nat) : Int) + 1 < ((i + 1 : Nat) : Int)) = false := by simp
        have hg2 : decide (i + 1 < i + 1) = false := by simp
        clear hml HO
        go_wp2_with fail
        go_quiet (fail)
        have HN2 := hide (HN.out.drewN nq)
        have hb2 := below_drewN hb nq
        clear HN hb
        generalize wr.drewN nq = w9 at *
        go_wp2
        go_roundw
        case rel => exact ⟨i + 1, i, (i : Int) - 1, by go_num, rfl, by omega, by omega, by omega, .inl rfl, HN2.out, hb2⟩
        case measure => first | (simp [intOf]; done) | (simp [intOf]; omega)
      | cons y s =>
        have hmi : i + 1 < m := by rw [← hml, List.length_cons]; omega
        have hg : decide ((i : Int) + 1 < (m : Int)) = true := by simp; omega
        have hg2 : decide (i + 1 < m) = true := by simp; omega
        have hc1 := HO.out.cell (j := i) (by omega)
        have hc2 := HO.out.cell (j := i + 1) hmi
        have e1 : (a ++ x :: y :: s).getD i 0 = x := by rw [← htl]; exact getD_mid a x _
        have e2 : (a ++ x :: y :: s).getD (i + 1) 0 = y := by rw [← htl]; exact getD_mid2 a x y s
        rw [e1] at hc1
        rw [e2] at hc2
        obtain ⟨hy0, hy1⟩ := HM.out y (by simp)
        have hwr : IntKind.i64.wrap ((i : Int) + 1) = (i : Int) + 1 := by rw [IntKind.wrap_i64]; omega
        have hp0 : (0 : Int) ≤ (i : Int) + 1 := by omega
        have hp1 : (i : Int) + 1 < (m : Int) := by omega
        have hp2 : ((i : Int) + 1).toNat = i + 1 := by omega
        clear hml e1 e2
        by_cases hxy : x = -y
        · have hbe : (x == -y) = true := by simpa using hxy
          have HW : Hid (without2 (a ++ x :: y :: s) i = shK xs i) := hide (by
            rw [HCN.out, cns_cons, if_pos hxy]
            have := without2_mid a x y s
            rwa [htl] at this)
          clear hxy
          go_wp2_with fail
          go_quiet (fail)
          have HO2 := hide (HO.out.drewN nq)
          have hb2 := below_drewN hb nq
          clear HO hb hc1 hc2 hg2 hwr hp0 hp2
          generalize wr.drewN nq = w9 at *
          go_wp2_with fail
          refine (delete2_any w.heap.size g m c1 i _ w9 HO2.out (by omega)).mono ?_
          rintro e w10 ⟨rfl, ho10, hg10⟩
          rw [HW.out] at ho10
          have HO10 := hide ho10
          have hb10 := hb2.grown hg10 hb2.size (fun j hj => by injection hj with hj; omega)
          clear ho10 hg10 hb2 HO2
          go_wp2
          go_roundw
          case rel => exact ⟨m - 2, i, (i : Int) - 1, rfl, rfl, hin, by omega, by omega, .inl rfl, HO10.out, hb10⟩
          case measure => first | (simp [intOf]; done) | (simp [intOf]; omega)
        · have hbe : (x == -y) = false := by simpa using hxy
          have HN : Hid (OwnI wr w.heap.size (some ⟨g, 0, none⟩) m c1 (shK xs i)) := by
            rw [HCN.out, cns_cons, if_neg hxy]
            exact HO.out
          clear hxy HO
          go_wp2_with fail
          go_quiet (fail)
          have HN2 := hide (HN.out.drewN nq)
          have hb2 := below_drewN hb nq
          clear HN hb hc1 hc2 hg2 hwr hp0 hp2
          generalize wr.drewN nq = w9 at *
          go_wp2
          go_roundw
          case rel => exact ⟨m, i, (i : Int) - 1, rfl, rfl, hin, by omega, by omega, .inl rfl, HN2.out, hb2⟩
          case measure => first | (simp [intOf]; done) | (simp [intOf]; omega)
end Go.Proofs.Ytihpmdfeonphpaa
/- timbref1.Core: the cyclically reduced part. -/
namespace Go.Proofs.Ytihpmdfeonphpaa
set_option linter.unusedVariables false
set_option linter.unusedSimpArgs false
open Go.RowKit

theorem coreN_fuel : ∀ (k n : Nat) (w : List Int), w.length ≤ k → w.length ≤ n → coreN n w = core w
  | 0, n, w, hk, h => by
    have : w = [] := List.eq_nil_of_length_eq_zero (by omega)
    subst this
    cases n with
    | zero => rfl
    | succ n => simp [core, coreN]
  | k + 1, n, w, hk, h => by
    by_cases hc : 1 < w.length ∧ w.getD 0 0 = -w.getD (w.length - 1) 0
    · have hl := inner_length hc.1
      obtain ⟨n', rfl⟩ : ∃ n', n = n' + 1 := ⟨n - 1, by omega⟩
      obtain ⟨m, hm⟩ : ∃ m, w.length = m + 1 := ⟨w.length - 1, by omega⟩
      unfold core
      rw [hm]
      simp only [coreN]
      rw [if_pos hc, if_pos hc, coreN_fuel k n' _ (by omega) (by omega), coreN_fuel k m _ (by omega) (by omega)]
    · have h1 : ∀ n, coreN n w = (w, []) := fun n => by
        cases n with
        | zero => rfl
        | succ n => simp only [coreN]; rw [if_neg hc]
      unfold core
      rw [h1, h1]
theorem core_step {w : List Int} (h1 : 1 < w.length) (h2 : w.getD 0 0 = -w.getD (w.length - 1) 0) : core w = ((core w.tail.dropLast).1, w.getD 0 0 :: (core w.tail.dropLast).2) := by
  have hl := inner_length h1
  obtain ⟨m, hm⟩ : ∃ m, w.length = m + 1 := ⟨w.length - 1, by omega⟩
  show coreN w.length w = _
  rw [hm]
  simp only [coreN]
  rw [if_pos ⟨h1, h2⟩, coreN_fuel _ m _ (Nat.le_refl _) (by omega)]
theorem core_stop {w : List Int} (h : ¬ (1 < w.length ∧ w.getD 0 0 = -w.getD (w.length - 1) 0)) : core w = (w, []) := by
  show coreN w.length w = _
  cases w.length with
  | zero => rfl
  | succ n => simp only [coreN]; rw [if_neg h]
theorem OwnI.capMax {w : World} {base n c : Nat} {A : Option Addr} {xs : List Int} (h : OwnI w base A n c xs) : c ≤ 9223372036854775807 := by
  rcases h.own.2 with ⟨hv, _⟩ | ⟨g', cap, cur, hv, _, _, _, hcm, _⟩
  · simp only [Value.slice.injEq] at hv
    omega
  · simp only [Value.slice.injEq, true_and] at hv
    obtain ⟨_, _, rfl⟩ := hv
    unfold maxLen at hcm
    exact hcm
theorem IL.mid {w : World} {ad : Addr} {n k m : Nat} {xs : List Int} (h : IL w (some ad) n xs) (hk : k + m ≤ n) : IL w (some (ad.add k)) m ((xs.drop k).take m) := by
  have hl := h.len
  refine ⟨by simp; omega, by have := h.small; omega, fun h0 => ?_⟩
  obtain ⟨ad', e, hlt, hc⟩ := h.mem (by omega)
  injection e with e
  subst e
  refine ⟨ad.add k, rfl, by rw [block_of_add]; exact hlt, fun j hj => ?_⟩
  rw [add_of_add, hc (k + j) (by omega)]
  simp [List.getD, List.getElem?_take, List.getElem?_drop, hj]
theorem inner_eq {w : List Int} (h : 1 < w.length) : w.tail.dropLast = (w.drop 1).take (w.length - 2) := by
  rw [List.dropLast_eq_take, List.drop_one, List.length_tail]
  congr 1

end Go.Proofs.Ytihpmdfeonphpaa
/- slices.Grow of nil; slices.Concat. -/
namespace Go.Proofs.Ytihpmdfeonphpaa
set_option linter.unusedVariables false
set_option linter.unusedSimpArgs false
open Go.RowKit

theorem run_append_zeros (w : World) (ty : TypeId) (n : Nat) (h0 : 0 < n) (hn : n ≤ 1000000) :
    (Builtin.append_ #[22, 3] ty #[.slice none 0 0, .int .i64 n]).run Try.prog w =
      .ok (.slice (some ⟨w.heap.size, 0, none⟩) n (grownCap w n 0 3)) (w.drew.alloc (.cells (Builtin.zeroCells #[.int .i64 0] n ++ Builtin.zeroCells #[.int .i64 0] (grownCap w n 0 3 - n)) 3)) := by
  obtain ⟨i0, hi0, hz0, hz1, hz2⟩ := info_parts int_info
  have hn' : n ≠ 0 := by omega
  have hwr : IntKind.i64.wrap (n : Int) = n := by rw [IntKind.wrap_i64]; omega
  have h63' : ¬ (9223372036854775807 < (n : Int)) := by omega
  have hneg : ¬ ((n : Int) < 0) := by omega
  have h48b : ¬ (281474976710656 < (n : Int) * 8) := by omega
  have hint : ∀ w : World, (asInt (.int .i64 (n : Int))).run Try.prog w = .ok (n : Int) w := fun w => rfl
  have h48' : ¬ (281474976710656 < Builtin.nextslicecap n 0 * 8) := by rw [nextslicecap_zero h0]; omega
  have hnp : ¬ ((n : Int) ≤ 0) := by omega
  simp [Builtin.append_, run_underlying Try.underlying22, run_underlying Try.underlying3, sizeOf, typeInfo, zeroValue, hi0, hz0, hz1, hz2, hint, hwr, hneg, h48b, hn', h63', h48', Question.forced, run_firstCells_none, newRow, grownCap, Value.cells]

theorem wpList_append_zeros {ops : Array Oper} {rest : List Oper} {o : Oper} {a : Act} {w : World} {Q : Exit → Act → World → Prop} (hgd : o.guard = none) (s x : Operand)
    (ho : o.op = .call { callee := .builtin .append, args := #[s, x], argTypes := #[22, 3] }) (n : Nat) (h0 : 0 < n) (hn : n ≤ 1000000) (hs : a.eval s = .slice none 0 0) (hx : a.eval x = .int .i64 n)
    (h : wpList Try.prog ops Q rest (a.put o.dst (.slice (some ⟨w.heap.size, 0, none⟩) n (grownCap w n 0 3))) (w.drew.alloc (.cells (Builtin.zeroCells #[.int .i64 0] n ++ Builtin.zeroCells #[.int .i64 0] (grownCap w n 0 3 - n)) 3))) : wpList Try.prog ops Q (o :: rest) a w :=
  wpList_plain hgd fun _ hK => by
    unfold Oper.wp execOp
    simp only [ho, resolve, invoke, builtin, Sem.run_bind, Sem.run_pure, Result.andThen_ok, List.map_toArray, List.map_cons, List.map_nil, hs, hx, run_append_zeros w o.type n h0 hn]
    exact hK _ _ h
theorem zeroCells_size (n : Nat) : (Builtin.zeroCells #[.int .i64 0] n).size = n := by simp [Builtin.zeroCells]
set_option maxHeartbeats 1000000 in
theorem grow_any (n : Nat) (w : World) (hn : n ≤ 1000000) :
    Calls Try.prog 49 #[.slice none 0 0, .int .i64 n] w (GivesOwn w []) := by
  rcases Nat.eq_zero_or_pos n with h0 | h0
  · subst h0
    go_enter Try.func49, Try.ntmps49
    go_wp2
    go_ret
    exact ⟨none, 0, 0, rfl, OwnI.nil_ _ _, Below.refl _ _⟩
  · go_enter Try.func49, Try.ntmps49
    go_wp2_with (at_builtin; refine wpList_append_zeros rfl (.tmp 20) (.tmp 21) rfl n h0 hn rfl rfl ?_)
    go_ret
    have hge := grownCap_ge w n 0 3
    have hle := grownCap_le_maxLen w n 0 3 (by unfold maxLen; omega)
    refine ⟨some ⟨w.heap.size, 0, none⟩, 0, grownCap w n 0 3, rfl, ⟨⟨rfl, .inr ⟨w.heap.size, _, _, rfl, Nat.le_refl _, heap_alloc_new w.drew _, by omega, hle, ?_, ?_⟩⟩, by omega⟩, ((Below.refl _ _).drew).alloc (Nat.le_refl _) _⟩
    · simp only [Array.size_append, zeroCells_size]
      omega
    · simp

set_option maxRecDepth 100000 in
set_option maxHeartbeats 1000000 in
theorem concat_any (A : Option Addr) (l c : Nat) (xss : List (List Int)) (w : World) (ha : ILL w A l xss) (hs : xss.flatten.length ≤ 1000000) :
    Calls Try.prog 35 #[.slice A l c] w (GivesOwn w xss.flatten) := by
  have hl := ha.len
  have hls := ha.small
  have HA := hide ha
  have HL := hide hl
  have HFL := hide (flatten_take_le xss)
  obtain ⟨i0, hi0, hz0, hz1, hz2⟩ := info_parts int_info
  have HI0 := hide hi0
  have HZ0 := hide hz0
  have HZ1 := hide hz1
  have HZ2 := hide hz2
  clear ha hl hi0 hz0 hz1 hz2
  go_enter Try.func35, Try.ntmps35
  go_wp2_with fail
  go_loop [3, 11] (fun sv iv => ∃ k s : Nat, k ≤ l ∧ iv = .int .i64 k ∧ sv = .int .i64 s ∧ s ≤ 1000000 ∧ Hid (s = (xss.take k).flatten.length)) (fun _ iv => l - (intOf iv).toNat)
  case atStart => exact ⟨0, 0, Nat.zero_le _, rfl, rfl, by omega, by rw [List.take_zero]; exact rfl⟩
  case round =>
    obtain ⟨k, s, hk, rfl, rfl, hs1, HS⟩ := hrel
    by_cases hlt : k < l
    · obtain ⟨ad, B, m, d, rfl, hcl, hil⟩ := HA.out.at_ hlt
      have hkx : k < xss.length := by rw [HL.out]; exact hlt
      have hm := hil.len
      have h2 := HFL.out (k + 1)
      have h3 := congrArg List.length (sum_take hkx)
      rw [List.length_append, hm, ← HS.out] at h3
      rw [h3] at h2
      have hsm : s + m ≤ 1000000 := by omega
      have HN : Hid (s + m = (xss.take (k + 1)).flatten.length) := hide h3.symm
      clear hil hm h2 h3
      go_wp2
      go_round
      case rel => exact ⟨k + 1, s + m, by omega, by go_num, by go_num, hsm, HN.out⟩
      case measure => simp [intOf]; omega
    · have HE : Hid (s = xss.flatten.length) := hide (by rw [HS.out, List.take_of_length_le (by rw [HL.out]; omega)])
      clear HS
      go_wp2_with fail
      refine (grow_any s w hs1).mono ?_
      rintro e w1 ⟨A1, n1, c1, rfl, ho1, hb1⟩
      have hn1 : n1 = 0 := by have := ho1.len; simpa using this.symm
      subst hn1
      go_wp2_with fail
      go_loopw [6, 27] (fun ov iv wr => ∃ (k m c2 : Nat) (A2 : Option Addr), k ≤ l ∧ iv = .int .i64 k ∧ ov = .slice A2 m c2 ∧ OwnI wr w.heap.size A2 m c2 (xss.take k).flatten ∧ Below w.heap.size w wr) (fun _ iv _ => l - (intOf iv).toNat)
      case atStart => exact ⟨0, 0, c1, A1, Nat.zero_le _, rfl, rfl, by rw [List.take_zero]; exact ho1, hb1⟩
      case round =>
        clear ho1 hb1
        obtain ⟨k, m, c2, A2, hk, rfl, rfl, ho, hb⟩ := hrel
        by_cases hlt : k < l
        · obtain ⟨ad, B, m2, d, rfl, hcl, hil⟩ := (HA.out.below hb).at_ hlt
          have hkx : k < xss.length := by rw [HL.out]; exact hlt
          have hm := hil.len
          have hml := ho.len
          have h2 := HFL.out (k + 1)
          have h3 := congrArg List.length (sum_take hkx)
          rw [List.length_append, hm, hml] at h3
          rw [h3] at h2
          have hsm : m + m2 ≤ 1000000 := by omega
          have HT := hide (sum_take hkx)
          have HIL := hide hil
          have HO := hide ho
          have HB := hide hb
          clear hil hm hml h2 h3 ho hb
          go_wp2_with (at_builtin; refine wpList_append_int _ rfl (.tmp 31) (.tmp 32) 22 rfl w.heap.size i0 Try.underlying22 HI0.out HZ0.out HZ1.out HZ2.out A2 m c2 _ rfl HO.out B m2 d _ rfl HIL.out (by omega) HB.out.size ?_; intro A8 c8 w8 hap)
          have hN := hap.own
          rw [← HT.out] at hN
          have hb8 := HB.out.grown hap.grown HB.out.size (fun j hj => (HO.out.lt j (by rw [ownBlock_len A2 m (m + m2) c2 c2]; exact hj)).1)
          clear hap
          go_roundw
          case rel => exact ⟨k + 1, m + m2, c8, A8, by omega, by go_num, rfl, hN, hb8⟩
          case measure => simp [intOf]; omega
        · have HO : Hid (OwnI wr w.heap.size A2 m c2 xss.flatten) := by
            rw [List.take_of_length_le (by rw [HL.out]; omega)] at ho
            exact ho
          go_wp2
          go_ret
          exact ⟨A2, m, c2, rfl, HO.out, hb⟩
end Go.Proofs.Ytihpmdfeonphpaa
/- timbref1.Rooted: the root of a word. -/
namespace Go.Proofs.Ytihpmdfeonphpaa
set_option linter.unusedVariables false
set_option linter.unusedSimpArgs false
open Go.RowKit

theorem core_ne {w : List Int} (hr : Red w) (hne : w ≠ []) : (core w).1 ≠ [] := by
  intro h
  have h1 := (core_spec w).1
  rw [h, List.append_nil] at h1
  have h2 := nf_of_red hr
  rw [h1, nf_mul_inv] at h2
  exact hne (by rw [h1]; exact h2.symm)
theorem core_len (w : List Int) : (core w).1.length + 2 * (core w).2.length = w.length := by
  have h := congrArg List.length (core_spec w).1
  rw [List.length_append, List.length_append, invw_length] at h
  omega
theorem core_mem2 {w : List Int} {x : Int} (h : x ∈ (core w).2) : x ∈ w := by
  rw [(core_spec w).1]
  exact List.mem_append_left _ (List.mem_append_left _ h)
theorem core_mem1 {w : List Int} {x : Int} (h : x ∈ (core w).1) : x ∈ w := by
  rw [(core_spec w).1]
  exact List.mem_append_left _ (List.mem_append_right _ h)

end Go.Proofs.Ytihpmdfeonphpaa
/- timbref1.Conjugates. -/
namespace Go.Proofs.Ytihpmdfeonphpaa
set_option linter.unusedVariables false
set_option linter.unusedSimpArgs false
open Go.RowKit

theorem IL.tailA {w : World} {ad : Addr} {n d : Nat} {xs : List Int} (h : IL w (some ad) n xs) (h1 : 1 ≤ n) (hd : n ≤ d) : IL w (if d = 1 then some ad else some (ad.add 1)) (n - 1) (xs.drop 1) := by
  have hl := h.len
  have hm := h.mid (k := 1) (m := n - 1) (by omega)
  rw [List.take_of_length_le (by simp; omega)] at hm
  by_cases hd1 : d = 1
  · rw [if_pos hd1]
    exact ⟨hm.len, hm.small, fun h0 => absurd h0 (by omega)⟩
  · rw [if_neg hd1]
    exact hm
theorem eClone : ∀ args w, (callFunc 21 args).run Try.prog w = .ok (.enter 21 args) w := enters (fn := Try.f21) (by kernel_rfl) (by kernel_rfl) (by kernel_rfl)
theorem sizeInt (w : World) : (sizeOf 3).run Try.prog w = .ok 1 w := by kernel_rfl

end Go.Proofs.Ytihpmdfeonphpaa
/- timbmake.Perm. -/
namespace Go.Proofs.Ytihpmdfeonphpaa
set_option linter.unusedVariables false
set_option linter.unusedSimpArgs false
open Go.RowKit

/-- The state of the loop: what is out, what is left. -/
def MpState (n : Nat) (raws : List Int) (os rs : List Nat) : Prop := (os ++ rs).Perm (List.range n) ∧ (raws = [] → os ++ rs = List.range n)

theorem rest_tail {w8 w9 : World} {B5 g5 m c5 i c9 : Nat} {A9 B10 : Option Addr} {xs ys : List Int} (hr : OwnI w8 B5 (some ⟨g5, 0, none⟩) m c5 xs) (hg : g5 < w8.heap.size)
    (h9 : Appended (w8.alloc (.cells #[] 3)).drew w8.heap.size (some ⟨w8.heap.size, 0, none⟩) (0 + i) 0 ys A9 c9 w9) (hi : i + 1 ≤ m)
    (hB : (if c5 = i + 1 then some (⟨g5, 0, none⟩ : Addr) else some ⟨g5, i + 1, none⟩) = B10) : IL w9 B10 (m - (i + 1)) (xs.drop (i + 1)) := by
  have h1 : OwnI w9 B5 (some ⟨g5, 0, none⟩) m c5 xs := (hr.alloc _).drew.kept h9.grown (.inr (by simp [Value.ownBlock]; omega))
  have h2 := h1.il.tail (k := i + 1) (d := c5) hi h1.cap
  rw [Nat.zero_add, hB] at h2
  exact h2

theorem mp_keep {w w8 w9 w10 : World} {k c8 i j c9 c10 : Nat} {A8 A9 A10 : Option Addr} {xs ys ys' : List Int} (hB8 : Below w.heap.size w w8) (ho : OwnI w8 w.heap.size A8 k c8 xs)
    (h9 : Appended (w8.alloc (.cells #[] 3)).drew w8.heap.size (some ⟨w8.heap.size, 0, none⟩) (0 + i) 0 ys A9 c9 w9) (h10 : Appended w9 w8.heap.size A9 j c9 ys' A10 c10 w10) :
    OwnI w10 w.heap.size A8 k c8 xs ∧ Below w.heap.size w w10 ∧ w.heap.size ≤ w8.heap.size ∧ (∀ g, (Value.slice A8 k c8).ownBlock = some g → g < w8.heap.size) := by
  have hs := hB8.size
  have hlt : ∀ g, (Value.slice A8 k c8).ownBlock = some g → g < w8.heap.size := fun g hg => (ho.lt g hg).2
  have hA9 : ∀ g, (Value.slice A9 j c9).ownBlock = some g → w8.heap.size ≤ g := by
    intro g hg
    rcases h9.lies with e | e
    · rw [ownBlock_len A9 j (0 + i) c9 c9, e] at hg
      simp [Value.ownBlock] at hg
      omega
    · rw [ownBlock_len A9 j (0 + i) c9 c9, e] at hg
      simp at hg
      omega
  have o9 : OwnI w9 w.heap.size A8 k c8 xs := (ho.alloc _).drew.kept h9.grown (by
    rcases hb : (Value.slice A8 k c8).ownBlock with _ | g
    · exact .inl rfl
    · refine .inr ?_
      have := hlt g hb
      simp [Value.ownBlock]; omega)
  have o10 : OwnI w10 w.heap.size A8 k c8 xs := o9.kept h10.grown (by
    rcases hb : (Value.slice A8 k c8).ownBlock with _ | g
    · exact .inl rfl
    · refine .inr fun e => ?_
      have := hlt g hb
      have := hA9 g e.symm
      omega)
  have b9 : Below w.heap.size w w9 := ((hB8.alloc hs _).drew).grown h9.grown (by simp; omega) (by intro g hg; simp [Value.ownBlock] at hg; omega)
  have b10 : Below w.heap.size w w10 := b9.grown h10.grown b9.size (fun g hg => by have := hA9 g hg; omega)
  exact ⟨o10, b10, hs, hlt⟩

theorem mp_state {n : Nat} {raws : List Int} {os rs : List Nat} {i q : Nat} (hi : i < rs.length) (hq : rs.getD i 0 = q) (hraw : raws = [] → i = 0) (h : MpState n raws os rs) :
    MpState n raws (os ++ [q]) (rs.take i ++ rs.drop (i + 1)) := by
  subst hq
  refine ⟨perm_take hi h.1, fun hr => ?_⟩
  obtain rfl := hraw hr
  exact range_take hi (h.2 hr)
theorem mp_rest {w : World} {base m i c m2 : Nat} {A : Option Addr} {rs : List Nat} (h : OwnI w base A (0 + i + (m - (i + 1))) c ([] ++ (zs rs).take i ++ (zs rs).drop (i + 1))) (hm2 : m2 = 0 + i + (m - (i + 1))) :
    OwnI w base A m2 c (zs (rs.take i ++ rs.drop (i + 1))) := by
  rw [List.nil_append, zs_take, zs_drop, zs_append] at h
  rw [hm2]
  exact h
theorem mp_out {w : World} {base k c : Nat} {A : Option Addr} {os : List Nat} {q : Nat} (h : OwnI w base A k c (zs os ++ [(q : Int)])) : OwnI w base A k c (zs (os ++ [q])) := by
  have e : zs os ++ [(q : Int)] = zs (os ++ [q]) := by simp [zs]
  rw [← e]
  exact h
/-- What timbmake.Perm gives. -/
def GivesPerm (n : Nat) (raws : List Int) (w : World) (e : Ending) (w' : World) : Prop := ∃ a : List Nat, isP a ∧ a.length = n ∧ (raws = [] → a = List.range n) ∧ GivesOwn w (zs a) e w'

end Go.Proofs.Ytihpmdfeonphpaa
/- timbmake.Letter, timbmake.Word. -/
namespace Go.Proofs.Ytihpmdfeonphpaa
set_option linter.unusedVariables false
set_option linter.unusedSimpArgs false
open Go.RowKit

theorem letter_any (x : Int) (k : Nat) (w : World) (h0 : 0 < k) (hk : k ≤ 1000) :
    Calls Try.prog 36 #[.int .i64 x, .int .i64 k] w fun e w' => ∃ y : Int, e = .returned (.int .i64 y) ∧ y ≠ 0 ∧ -(k : Int) ≤ y ∧ y ≤ k ∧ w = w' := by
  have HM := hide (mbelow_any x (2 * k) w (by omega) (by omega))
  have h1 := Int.emod_nonneg x (show ((2 * k : Nat) : Int) ≠ 0 by omega)
  have h2 := Int.emod_lt_of_pos x (show (0 : Int) < ((2 * k : Nat) : Int) by omega)
  obtain ⟨z, hz⟩ : ∃ z, x % ((2 * k : Nat) : Int) = z := ⟨_, rfl⟩
  rw [hz] at HM h1 h2
  have e2 : ((2 * k : Nat) : Int) = 2 * (k : Int) := by omega
  rw [e2] at HM h2
  clear hz e2
  go_enter Try.func36, Try.ntmps36
  go_wp2_with fail
  refine HM.out.mono ?_
  rintro e w' ⟨rfl, rfl⟩
  by_cases hlt : z < k
  · go_wp2
    go_ret
    exact ⟨z + 1, rfl, by omega, by omega, by omega, rfl⟩
  · go_wp2
    go_ret
    exact ⟨_, rfl, by omega, by omega, by omega, rfl⟩

/-- The letters so far. -/
structure WoSt (w wr : World) (k : Nat) (A : Option Addr) (n c : Nat) (us : List Int) : Prop where
  own : OwnI wr w.heap.size A n c us
  ok : ∀ x ∈ us, x ≠ 0 ∧ x ≤ k ∧ -(k : Int) ≤ x
  below : Below w.heap.size w wr
set_option maxRecDepth 100000 in
set_option maxHeartbeats 2000000 in
theorem word_any (A : Option Addr) (k l c L : Nat) (xs : List Int) (w : World) (hx : IL w A l xs) (hc : l ≤ c) (h0 : 0 < k) (hk : k ≤ 1000) (hL : L ≤ 1000) :
    Calls Try.prog 14 #[.int .i64 k, .slice A l c, .int .i64 L] w fun e w' => ∃ us B m d, e = .returned (.slice B m d) ∧ OwnI w' w.heap.size B m d us ∧ (∀ x ∈ us, x ≠ 0 ∧ x ≤ k ∧ -(k : Int) ≤ x) ∧ m ≤ L ∧ Below w.heap.size w w' := by
  obtain ⟨i0, hi0, hz0, hz1, hz2⟩ := info_parts int_info
  have HX := hide hx
  have hsm := hx.small
  clear hx
  obtain ⟨K, hK⟩ : ∃ K, K = min l L := ⟨_, rfl⟩
  have hKl : K ≤ l := by omega
  have HP := hide (HX.out.pre hKl)
  have hK10 : K ≤ L := by omega
  go_enter Try.func14, Try.ntmps14
  go_upto_region 3 with fail
  all_goals
    first | (have e : K = L := by omega) | (have e : K = l := by omega)
    subst e
    clear hK
    go_loopw [7, 17] (fun ov iv wr => ∃ (i c7 : Nat) (A7 : Option Addr) (us : List Int), ov = .slice A7 i c7 ∧ iv = .int .i64 i ∧ i ≤ K ∧ WoSt w wr k A7 i c7 us) (fun _ iv _ => K - (intOf iv).toNat)
    case atStart => exact ⟨0, 0, none, [], rfl, rfl, by omega, ⟨OwnI.nil_ _ _, fun x hx => by simp at hx, Below.refl _ _⟩⟩
    case round =>
      obtain ⟨i, c7, A7, us, rfl, rfl, hi, hst⟩ := hrel
      by_cases hlt : i < K
      · obtain ⟨ad, rfl, hcl⟩ := (HP.out.below hst.below).at_ hlt
        generalize (xs.take K).getD i 0 = x at *
        go_wp2_with fail
        refine (letter_any x k wr h0 hk).mono ?_
        rintro e w2 ⟨y, rfl, hy0, hy1, hy2, rfl⟩
        have HST := hide hst
        have hs := hst.below.size
        clear hst hcl
        go_wp2_with (at_builtin; refine wpList_append_int _ rfl _ _ 22 rfl w.heap.size i0 Try.underlying22 hi0 hz0 hz1 hz2 A7 i c7 us rfl (HST.out.own.alloc _) (some ⟨_, 0, none⟩) 1 1 [y] rfl (IL.lit _ [y] (by simp) rfl rfl) (by omega) (by simp; omega) ?_; intro A8 c8 w8 hap)
        have hN : WoSt w w8 k A8 (i + 1) c8 (us ++ [y]) := by
          refine ⟨hap.own, fun z hz => ?_, (HST.out.below.alloc hs _).grown hap.grown (by simp; omega) (fun j hj => (HST.out.own.lt j (by rw [ownBlock_len A7 i (i + 1) c7 c7]; exact hj)).1)⟩
          rcases List.mem_append.1 hz with hz | hz
          · exact HST.out.ok z hz
          · obtain rfl : z = y := by simpa using hz
            exact ⟨hy0, hy2, hy1⟩
        clear hap
        go_roundw
        case rel => exact ⟨i + 1, c8, A8, _, by go_num, by go_num, by omega, hN⟩
        case measure => simp [intOf]; omega
      · go_wp2
        go_ret
        exact ⟨us, A7, i, c7, rfl, hst.own, hst.ok, by omega, hst.below⟩
end Go.Proofs.Ytihpmdfeonphpaa
/- What package freegroup's functions are to answer (words alone), and what follows for the facts free and reduced that the laws begin with. -/
namespace Go.Proofs.Ytihpmdfeonphpaa
set_option linter.unusedVariables false
set_option linter.unusedSimpArgs false
open Go.RowKit

/-- A slice and an error. -/
def GivesLE (w : World) (err : Int) (xs : List Int) (e : Ending) (w' : World) : Prop :=
  ∃ A n c, e = .returned (.tuple #[.slice A n c, .int .i64 err]) ∧ SL w' A n c xs ∧ Below w.heap.size w w'

/-- The same, the slice in memory that was not there before. -/
def GivesLEn (w : World) (err : Int) (xs : List Int) (e : Ending) (w' : World) : Prop :=
  ∃ A n c, e = .returned (.tuple #[.slice A n c, .int .i64 err]) ∧ SL w' A n c xs ∧ (0 < n → ∀ ad, A = some ad → w.heap.size ≤ ad.block) ∧ Below w.heap.size w w'
theorem GivesLEn.le {w : World} {err : Int} {xs : List Int} {e : Ending} {w' : World} (h : GivesLEn w err xs e w') : GivesLE w err xs e w' := by
  obtain ⟨A, n, c, h1, h2, _, h3⟩ := h
  exact ⟨A, n, c, h1, h2, h3⟩

def redL (xs : List Int) : List Int := if ffault xs = 0 then nf xs else []
def invFL (xs : List Int) : List Int := if ffault xs = 0 then invw (nf xs) else []
def prodE (xs ys : List Int) : Int := if ffault xs = 0 then (if ffault ys = 0 then (if 60 < (nf (xs ++ ys)).length then 2 else 0) else ffault ys) else ffault xs
def prodL (xs ys : List Int) : List Int := if prodE xs ys = 0 then nf (xs ++ ys) else []
def bothE (xs ys : List Int) : Int := if ffault xs = 0 then ffault ys else ffault xs
def cycL (xs : List Int) : List Int := if ffault xs = 0 then (core (nf xs)).1 else []
def cycU (xs : List Int) : List Int := if ffault xs = 0 then (core (nf xs)).2 else []
noncomputable def conB (xs ys : List Int) : Bool := if bothE xs ys = 0 then conjB (core (nf xs)).1 (core (nf ys)).1 else false
def rootE (xs : List Int) : Int := if ffault xs = 0 then (if nf xs = [] then 4 else 0) else ffault xs
/-- What Root answers. -/
def RootOf (xs rs : List Int) (k : Int) : Prop :=
  (rootE xs = 0 → ∃ (d : List Int) (j : Nat), IsRoot (core (nf xs)).1 d j ∧ rs = (core (nf xs)).2 ++ d ++ invw (core (nf xs)).2 ∧ k = j) ∧ (rootE xs ≠ 0 → rs = [] ∧ k = 0)

/-- Package freegroup, as the document asks (its letters, words and errors; what it writes lies above what was). -/
structure FreeC : Prop where
  check : ∀ (A : Option Addr) (n c : Nat) (xs : List Int) (w : World), SL w A n c xs → Calls Try.prog 51 #[.slice A n c] w fun e w' => e = .returned (.int .i64 (ffault xs)) ∧ Below w.heap.size w w'
  product : ∀ (A B : Option Addr) (n c m d : Nat) (xs ys : List Int) (w : World), SL w A n c xs → SL w B m d ys → Calls Try.prog 17 #[.slice A n c, .slice B m d] w (GivesLE w (prodE xs ys) (prodL xs ys))
  conjugate : ∀ (A B : Option Addr) (n c m d : Nat) (xs ys : List Int) (w : World), SL w A n c xs → SL w B m d ys → Calls Try.prog 18 #[.slice A n c, .slice B m d] w fun e w' => e = .returned (.tuple #[.bool (conB xs ys), .int .i64 (bothE xs ys)]) ∧ Below w.heap.size w w'

/-- Product's answer lies in new memory. -/
def ProdNew : Prop := ∀ (A B : Option Addr) (n c m d : Nat) (xs ys : List Int) (w : World), SL w A n c xs → SL w B m d ys → Calls Try.prog 17 #[.slice A n c, .slice B m d] w (GivesLEn w (prodE xs ys) (prodL xs ys)) -- 17
theorem nf_122 : nf [1, 2, -2] = [1] := by decide
theorem root_1212 {rs : List Int} {k : Int} (h : RootOf [1, 2, 1, 2] rs k) : k = 2 := by
  have hn : nf [1, 2, 1, 2] = [1, 2, 1, 2] := by decide
  have h0 : rootE [1, 2, 1, 2] = 0 := by decide
  obtain ⟨d, j, hr, _, rfl⟩ := h.1 h0
  have hc : (core [1, 2, 1, 2]).1 = [1, 2, 1, 2] := by decide
  rw [hn, hc] at hr
  have h2 : IsRoot [1, 2, 1, 2] ([1, 2, 1, 2].take ([1, 2, 1, 2].length / 2)) 2 := isRoot_of_try (by decide) (by decide) (by decide) (by decide) (by
    intro j hj hl
    have : j = 3 ∨ j = 4 := by simp at hl; omega
    rcases this with rfl | rfl
    · decide
    · decide)
  have := (hr.unique h2 (by decide)).2
  omega

end Go.Proofs.Ytihpmdfeonphpaa
/- A sketch for a package that reduces words by pushing and popping (shape: r[:n-1] or append). -/
namespace Go.Proofs.Ytihpmdfeonphpaa
set_option linter.unusedVariables false
set_option linter.unusedSimpArgs false
open Go.RowKit

theorem snc_pop {L : List Int} {x : Int} {m : Nat} (hl : L.length = m) (hm : 0 < m) (h : L.getD (m - 1) 0 = -x) : snc L x = L.take (m - 1) := by
  have hne : L ≠ [] := fun e => by rw [e] at hl; simp at hl; omega
  obtain ⟨C, g, rfl⟩ : ∃ C g, L = C ++ [g] := ⟨L.dropLast, L.getLast hne, (List.dropLast_concat_getLast hne).symm⟩
  subst hl
  rw [getD_last] at h
  simp [snc, h]
theorem snc_push {L : List Int} {x : Int} {m : Nat} (hl : L.length = m) (h : m = 0 ∨ L.getD (m - 1) 0 ≠ -x) : snc L x = L ++ [x] := by
  rcases Nat.eq_zero_or_pos m with h0 | h0
  · obtain rfl : L = [] := List.eq_nil_of_length_eq_zero (by omega)
    rfl
  · have hne : L ≠ [] := fun e => by rw [e] at hl; simp at hl; omega
    obtain ⟨C, g, rfl⟩ : ∃ C g, L = C ++ [g] := ⟨L.dropLast, L.getLast hne, (List.dropLast_concat_getLast hne).symm⟩
    subst hl
    rw [getD_last] at h
    have hg : g ≠ -x := by
      rcases h with h | h
      · simp at h
      · exact h
    have hg2 : ¬ x = -g := by omega
    simp [snc, hg, hg2]
theorem snc_mem {L : List Int} {x y : Int} (h : y ∈ snc L x) : y ∈ L ∨ y = x := by
  by_cases hm : L.length = 0 ∨ L.getD (L.length - 1) 0 ≠ -x
  · rw [snc_push rfl hm] at h
    simpa using h
  · have h1 : 0 < L.length ∧ L.getD (L.length - 1) 0 = -x := by
      constructor
      · rcases Nat.eq_zero_or_pos L.length with h0 | h0
        · exact absurd (.inl h0) hm
        · exact h0
      · by_cases h2 : L.getD (L.length - 1) 0 = -x
        · exact h2
        · exact absurd (.inr h2) hm
    rw [snc_pop rfl h1.1 h1.2] at h
    exact .inl (List.mem_of_mem_take h)
theorem foldl_snc_mem {y : Int} : ∀ (xs L : List Int), y ∈ xs.foldl snc L → y ∈ L ∨ y ∈ xs
  | [], L, h => .inl h
  | x :: t, L, h => by
    rcases foldl_snc_mem t (snc L x) h with h | h
    · rcases snc_mem h with h | h
      · exact .inl h
      · exact .inr (by simp [h])
    · exact .inr (by simp [h])

end Go.Proofs.Ytihpmdfeonphpaa
