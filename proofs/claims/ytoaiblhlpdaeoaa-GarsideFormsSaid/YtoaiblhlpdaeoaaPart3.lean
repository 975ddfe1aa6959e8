/- Several texts in one. -/
import Derived.Test.YtoaiblhlpdaeoaaPart2
import Derived.Test.YtoaiblhlpdaeoaaPart1
import Derived.Test.YtoaiblhlpdaeoaaBase1
import Derived.Great.BuildSlice
import Derived.Deep.DeepCutAuto
import Derived.Deep.LoopGhost
/- timbref1.Short: the reduced form. -/
namespace Go.Proofs.Ytoaiblhlpdaeoaa
set_option linter.unusedVariables false
set_option linter.unusedSimpArgs false
open Go.RowKit

/-- The word, reduced from letter k on. -/
def shK (xs : List Int) (k : Nat) : List Int := xs.take k ++ nf (xs.drop k)
theorem shK_succ {xs : List Int} {i : Nat} (h : i < xs.length) : shK xs (i + 1) = xs.take i ++ xs.getD i 0 :: nf (xs.drop (i + 1)) := by
  unfold shK
  rw [List.take_succ_eq_append_getElem h, List.append_assoc]
  simp [List.getD, List.getElem?_eq_getElem h]
theorem shK_cns {xs : List Int} {i : Nat} (h : i < xs.length) : shK xs i = xs.take i ++ cns (xs.getD i 0) (nf (xs.drop (i + 1))) := by
  unfold shK
  rw [List.drop_eq_getElem_cons h]
  rw [show xs.getD i 0 = xs[i] by simp [List.getD, List.getElem?_eq_getElem h]]
  rfl
theorem getD_mid (a : List Int) (x : Int) (t : List Int) : (a ++ x :: t).getD a.length 0 = x := by simp [List.getD]
theorem getD_mid2 (a : List Int) (x y : Int) (t : List Int) : (a ++ x :: y :: t).getD (a.length + 1) 0 = y := by
  simp only [List.getD]
  rw [List.getElem?_append_right (by omega)]
  simp
theorem without2_mid (a : List Int) (x y : Int) (t : List Int) : without2 (a ++ x :: y :: t) a.length = a ++ t := by
  unfold without2
  rw [List.take_left, List.drop_append, List.drop_of_length_le (by omega), show a.length + 2 - a.length = 2 by omega]
  simp

set_option maxRecDepth 100000 in
set_option maxHeartbeats 2000000 in
theorem short_any (A : Option Addr) (n c : Nat) (xs : List Int) (w : World) (ha : IL w A n xs) (hc : A = none → n = 0 ∧ c = 0) (hb : ∀ x ∈ xs, -1000 ≤ x ∧ x ≤ 1000) :
    Calls Try.prog 100 #[.slice A n c] w (GivesOwn w (nf xs)) := by
  have hl := ha.len
  have hna := ha.small
  have HL := hide hl
  have HB := hide hb
  have HC := hide (clone_any A n c xs w ha hc)
  clear ha hl hb hc
  go_enter Try.func100, Try.ntmps100
  go_wp2_with fail
  refine HC.out.mono ?_
  rintro e w1 ⟨A1, n1, c1, rfl, ho1, hb1⟩
  have hn1 : n1 = n := by rw [← ho1.len]; exact HL.out
  subst hn1
  have HS : Hid (OwnI w1 w.heap.size A1 n1 c1 (shK xs (n1 - 1))) := by
    have : shK xs (n1 - 1) = xs := by
      by_cases h0 : n1 = 0
      · rw [List.eq_nil_of_length_eq_zero (show xs.length = 0 by rw [HL.out]; exact h0)]; simp [shK, nf, act]
      · have hlt : n1 - 1 < xs.length := by rw [HL.out]; omega
        unfold shK
        rw [List.drop_eq_getElem_cons hlt, List.drop_of_length_le (by rw [HL.out]; omega)]
        rw [show nf [xs[n1 - 1]] = [xs[n1 - 1]] from rfl]
        rw [← List.take_succ_eq_append_getElem hlt, List.take_of_length_le (by rw [HL.out]; omega)]
    rw [this]
    exact ho1
  have HST : Hid ((n1 : Int) - 2 = ((n1 - 1 : Nat) : Int) - 1 ∨ ((n1 : Int) - 2 < 0 ∧ n1 - 1 = 0)) := hide (by omega)
  clear ho1
  go_wp2_with fail
  go_loopw [0, 3] (fun sv iv wr => ∃ (m k : Nat) (j : Int), sv = .slice A1 m c1 ∧ iv = .int .i64 j ∧ k ≤ n1 - 1 ∧ -2 ≤ j ∧ j ≤ 17592186044416 ∧ Hid (j = (k : Int) - 1 ∨ (j < 0 ∧ k = 0)) ∧ Hid (OwnI wr w.heap.size A1 m c1 (shK xs k)) ∧ Below w.heap.size w wr) (fun _ iv _ => (intOf iv + 1).toNat)
  case atStart => exact ⟨n1, n1 - 1, (n1 : Int) - 2, rfl, rfl, by omega, by omega, by omega, HST.out, HS.out, hb1⟩
  case round =>
    clear HS HST hb1
    obtain ⟨m, k, j, rfl, rfl, hk, hj0, hj1, HJ, HO, hb⟩ := hrel
    by_cases hneg : j < 0
    · have HE : Hid (OwnI wr w.heap.size A1 m c1 (nf xs)) := by
        have hk0 : k = 0 := by have := HJ.out; omega
        have := HO.out
        rw [hk0] at this
        exact this
      go_wp2
      go_ret
      exact ⟨_, _, _, rfl, HE.out, hb⟩
    · obtain ⟨i, rfl⟩ : ∃ i : Nat, j = i := ⟨j.toNat, by omega⟩
      have hki : k = i + 1 := by have := HJ.out; omega
      have hil : i < xs.length := by rw [HL.out]; omega
      have HSU := hide (shK_succ hil)
      have HCN := hide (shK_cns hil)
      have hm : xs.getD i 0 ∈ xs := by
        rw [show xs.getD i 0 = xs[i] by simp [List.getD, List.getElem?_eq_getElem hil]]
        exact List.getElem_mem _
      obtain ⟨hx0, hx1⟩ := HB.out _ hm
      have htl : (xs.take i).length = i := by rw [List.length_take]; omega
      have hmem : ∀ y ∈ nf (xs.drop (i + 1)), -1000 ≤ y ∧ y ≤ 1000 := fun y hy => HB.out y (List.mem_of_mem_drop (nf_mem hy))
      have HM := hide hmem
      obtain ⟨x, hx⟩ : ∃ x, xs.getD i 0 = x := ⟨_, rfl⟩
      obtain ⟨t, ht⟩ : ∃ t, nf (xs.drop (i + 1)) = t := ⟨_, rfl⟩
      obtain ⟨a, ha⟩ : ∃ a, xs.take i = a := ⟨_, rfl⟩
      rw [hx, ht, ha] at HSU HCN
      rw [hx] at hx0 hx1
      rw [ht] at HM
      rw [ha] at htl
      rw [hki, HSU.out] at HO
      have hml := HO.out.len
      have hms := HO.out.small
      rw [List.length_append, List.length_cons, htl] at hml
      obtain ⟨g, rfl, hg1, hg2⟩ := HO.out.form (by omega)
      have HNJ : Hid ((i : Int) - 1 = (i : Int) - 1) := rfl
      have hin : i ≤ n1 - 1 := by omega
      clear hm hmem hx ht ha hki hil HJ HSU
      cases t with
      | nil =>
        have HN : Hid (OwnI wr w.heap.size (some ⟨g, 0, none⟩) m c1 (shK xs i)) := by rw [HCN.out]; exact HO.out
        have hmi : m = i + 1 := by rw [← hml]; rfl
        subst hmi
        have hg : decide (((i : Nat) : Int) + 1 < ((i + 1 : Nat) : Int)) = false := by simp
        have hg2 : decide (i + 1 < i + 1) = false := by simp
        clear hml HO
        go_wp2_with fail
        go_quiet (fail)
        have HN2 := hide (HN.out.drewN nq)
        have hb2 := below_drewN hb nq
        clear HN hb
        generalize wr.drewN nq = w9 at *
        go_wp2
        go_roundw
        case rel => exact ⟨i + 1, i, (i : Int) - 1, by go_num, rfl, by omega, by omega, by omega, .inl rfl, HN2.out, hb2⟩
        case measure => first | (simp [intOf]; done) | (simp [intOf]; omega)
      | cons y s =>
        have hmi : i + 1 < m := by rw [← hml, List.length_cons]; omega
        have hg : decide ((i : Int) + 1 < (m : Int)) = true := by simp; omega
        have hg2 : decide (i + 1 < m) = true := by simp; omega
        have hc1 := HO.out.cell (j := i) (by omega)
        have hc2 := HO.out.cell (j := i + 1) hmi
        have e1 : (a ++ x :: y :: s).getD i 0 = x := by rw [← htl]; exact getD_mid a x _
        have e2 : (a ++ x :: y :: s).getD (i + 1) 0 = y := by rw [← htl]; exact getD_mid2 a x y s
        rw [e1] at hc1
        rw [e2] at hc2
        obtain ⟨hy0, hy1⟩ := HM.out y (by simp)
        have hwr : IntKind.i64.wrap ((i : Int) + 1) = (i : Int) + 1 := by rw [IntKind.wrap_i64]; omega
        have hp0 : (0 : Int) ≤ (i : Int) + 1 := by omega
        have hp1 : (i : Int) + 1 < (m : Int) := by omega
        have hp2 : ((i : Int) + 1).toNat = i + 1 := by omega
        clear hml e1 e2
        by_cases hxy : x = -y
        · have hbe : (x == -y) = true := by simpa using hxy
          have HW : Hid (without2 (a ++ x :: y :: s) i = shK xs i) := hide (by
            rw [HCN.out, cns_cons, if_pos hxy]
            have := without2_mid a x y s
            rwa [htl] at this)
          clear hxy
          go_wp2_with fail
          go_quiet (fail)
          have HO2 := hide (HO.out.drewN nq)
          have hb2 := below_drewN hb nq
          clear HO hb hc1 hc2 hg2 hwr hp0 hp2
          generalize wr.drewN nq = w9 at *
          go_wp2_with fail
          refine (delete2_any w.heap.size g m c1 i _ w9 HO2.out (by omega)).mono ?_
          rintro e w10 ⟨rfl, ho10, hg10⟩
          rw [HW.out] at ho10
          have HO10 := hide ho10
          have hb10 := hb2.grown hg10 hb2.size (fun j hj => by injection hj with hj; omega)
          clear ho10 hg10 hb2 HO2
          go_wp2
          go_roundw
          case rel => exact ⟨m - 2, i, (i : Int) - 1, rfl, rfl, hin, by omega, by omega, .inl rfl, HO10.out, hb10⟩
          case measure => first | (simp [intOf]; done) | (simp [intOf]; omega)
        · have hbe : (x == -y) = false := by simpa using hxy
          have HN : Hid (OwnI wr w.heap.size (some ⟨g, 0, none⟩) m c1 (shK xs i)) := by
            rw [HCN.out, cns_cons, if_neg hxy]
            exact HO.out
          clear hxy HO
          go_wp2_with fail
          go_quiet (fail)
          have HN2 := hide (HN.out.drewN nq)
          have hb2 := below_drewN hb nq
          clear HN hb hc1 hc2 hg2 hwr hp0 hp2
          generalize wr.drewN nq = w9 at *
          go_wp2
          go_roundw
          case rel => exact ⟨m, i, (i : Int) - 1, rfl, rfl, hin, by omega, by omega, .inl rfl, HN2.out, hb2⟩
          case measure => first | (simp [intOf]; done) | (simp [intOf]; omega)
end Go.Proofs.Ytoaiblhlpdaeoaa
/- timbref1.Core: the cyclically reduced part. -/
namespace Go.Proofs.Ytoaiblhlpdaeoaa
set_option linter.unusedVariables false
set_option linter.unusedSimpArgs false
open Go.RowKit

theorem IL.mid {w : World} {ad : Addr} {n k m : Nat} {xs : List Int} (h : IL w (some ad) n xs) (hk : k + m ≤ n) : IL w (some (ad.add k)) m ((xs.drop k).take m) := by
  have hl := h.len
  refine ⟨by simp; omega, by have := h.small; omega, fun h0 => ?_⟩
  obtain ⟨ad', e, hlt, hc⟩ := h.mem (by omega)
  injection e with e
  subst e
  refine ⟨ad.add k, rfl, by rw [block_of_add]; exact hlt, fun j hj => ?_⟩
  rw [add_of_add, hc (k + j) (by omega)]
  simp [List.getD, List.getElem?_take, List.getElem?_drop, hj]
end Go.Proofs.Ytoaiblhlpdaeoaa
/- slices.Grow of nil; slices.Concat. -/
namespace Go.Proofs.Ytoaiblhlpdaeoaa
set_option linter.unusedVariables false
set_option linter.unusedSimpArgs false
open Go.RowKit

theorem run_append_zeros (w : World) (ty : TypeId) (n : Nat) (h0 : 0 < n) (hn : n ≤ 1000000) :
    (Builtin.append_ #[22, 3] ty #[.slice none 0 0, .int .i64 n]).run Try.prog w =
      .ok (.slice (some ⟨w.heap.size, 0, none⟩) n (grownCap w n 0 3)) (w.drew.alloc (.cells (Builtin.zeroCells #[.int .i64 0] n ++ Builtin.zeroCells #[.int .i64 0] (grownCap w n 0 3 - n)) 3)) := by
  obtain ⟨i0, hi0, hz0, hz1, hz2⟩ := info_parts int_info
  have hn' : n ≠ 0 := by omega
  have hwr : IntKind.i64.wrap (n : Int) = n := by rw [IntKind.wrap_i64]; omega
  have h63' : ¬ (9223372036854775807 < (n : Int)) := by omega
  have hneg : ¬ ((n : Int) < 0) := by omega
  have h48b : ¬ (281474976710656 < (n : Int) * 8) := by omega
  have hint : ∀ w : World, (asInt (.int .i64 (n : Int))).run Try.prog w = .ok (n : Int) w := fun w => rfl
  have h48' : ¬ (281474976710656 < Builtin.nextslicecap n 0 * 8) := by rw [nextslicecap_zero h0]; omega
  have hnp : ¬ ((n : Int) ≤ 0) := by omega
  simp [Builtin.append_, run_underlying Try.underlying22, run_underlying Try.underlying3, sizeOf, typeInfo, zeroValue, hi0, hz0, hz1, hz2, hint, hwr, hneg, h48b, hn', h63', h48', Question.forced, run_firstCells_none, newRow, grownCap, Value.cells]

theorem wpList_append_zeros {ops : Array Oper} {rest : List Oper} {o : Oper} {a : Act} {w : World} {Q : Exit → Act → World → Prop} (hgd : o.guard = none) (s x : Operand)
    (ho : o.op = .call { callee := .builtin .append, args := #[s, x], argTypes := #[22, 3] }) (n : Nat) (h0 : 0 < n) (hn : n ≤ 1000000) (hs : a.eval s = .slice none 0 0) (hx : a.eval x = .int .i64 n)
    (h : wpList Try.prog ops Q rest (a.put o.dst (.slice (some ⟨w.heap.size, 0, none⟩) n (grownCap w n 0 3))) (w.drew.alloc (.cells (Builtin.zeroCells #[.int .i64 0] n ++ Builtin.zeroCells #[.int .i64 0] (grownCap w n 0 3 - n)) 3))) : wpList Try.prog ops Q (o :: rest) a w :=
  wpList_plain hgd fun _ hK => by
    unfold Oper.wp execOp
    simp only [ho, resolve, invoke, builtin, Sem.run_bind, Sem.run_pure, Result.andThen_ok, List.map_toArray, List.map_cons, List.map_nil, hs, hx, run_append_zeros w o.type n h0 hn]
    exact hK _ _ h
theorem zeroCells_size (n : Nat) : (Builtin.zeroCells #[.int .i64 0] n).size = n := by simp [Builtin.zeroCells]
set_option maxHeartbeats 1000000 in
theorem grow_any (n : Nat) (w : World) (hn : n ≤ 1000000) :
    Calls Try.prog 69 #[.slice none 0 0, .int .i64 n] w (GivesOwn w []) := by
  rcases Nat.eq_zero_or_pos n with h0 | h0
  · subst h0
    go_enter Try.func69, Try.ntmps69
    go_wp2
    go_ret
    exact ⟨none, 0, 0, rfl, OwnI.nil_ _ _, Below.refl _ _⟩
  · go_enter Try.func69, Try.ntmps69
    go_wp2_with (at_builtin; refine wpList_append_zeros rfl (.tmp 20) (.tmp 21) rfl n h0 hn rfl rfl ?_)
    go_ret
    have hge := grownCap_ge w n 0 3
    have hle := grownCap_le_maxLen w n 0 3 (by unfold maxLen; omega)
    refine ⟨some ⟨w.heap.size, 0, none⟩, 0, grownCap w n 0 3, rfl, ⟨⟨rfl, .inr ⟨w.heap.size, _, _, rfl, Nat.le_refl _, heap_alloc_new w.drew _, by omega, hle, ?_, ?_⟩⟩, by omega⟩, ((Below.refl _ _).drew).alloc (Nat.le_refl _) _⟩
    · simp only [Array.size_append, zeroCells_size]
      omega
    · simp

set_option maxRecDepth 100000 in
set_option maxHeartbeats 1000000 in
theorem concat_any (A : Option Addr) (l c : Nat) (xss : List (List Int)) (w : World) (ha : ILL w A l xss) (hs : xss.flatten.length ≤ 1000000) :
    Calls Try.prog 29 #[.slice A l c] w (GivesOwn w xss.flatten) := by
  have hl := ha.len
  have hls := ha.small
  have HA := hide ha
  have HL := hide hl
  have HFL := hide (flatten_take_le xss)
  obtain ⟨i0, hi0, hz0, hz1, hz2⟩ := info_parts int_info
  have HI0 := hide hi0
  have HZ0 := hide hz0
  have HZ1 := hide hz1
  have HZ2 := hide hz2
  clear ha hl hi0 hz0 hz1 hz2
  go_enter Try.func29, Try.ntmps29
  go_wp2_with fail
  go_loop [3, 11] (fun sv iv => ∃ k s : Nat, k ≤ l ∧ iv = .int .i64 k ∧ sv = .int .i64 s ∧ s ≤ 1000000 ∧ Hid (s = (xss.take k).flatten.length)) (fun _ iv => l - (intOf iv).toNat)
  case atStart => exact ⟨0, 0, Nat.zero_le _, rfl, rfl, by omega, by rw [List.take_zero]; exact rfl⟩
  case round =>
    obtain ⟨k, s, hk, rfl, rfl, hs1, HS⟩ := hrel
    by_cases hlt : k < l
    · obtain ⟨ad, B, m, d, rfl, hcl, hil⟩ := HA.out.at_ hlt
      have hkx : k < xss.length := by rw [HL.out]; exact hlt
      have hm := hil.len
      have h2 := HFL.out (k + 1)
      have h3 := congrArg List.length (sum_take hkx)
      rw [List.length_append, hm, ← HS.out] at h3
      rw [h3] at h2
      have hsm : s + m ≤ 1000000 := by omega
      have HN : Hid (s + m = (xss.take (k + 1)).flatten.length) := hide h3.symm
      clear hil hm h2 h3
      go_wp2
      go_round
      case rel => exact ⟨k + 1, s + m, by omega, by go_num, by go_num, hsm, HN.out⟩
      case measure => simp [intOf]; omega
    · have HE : Hid (s = xss.flatten.length) := hide (by rw [HS.out, List.take_of_length_le (by rw [HL.out]; omega)])
      clear HS
      go_wp2_with fail
      refine (grow_any s w hs1).mono ?_
      rintro e w1 ⟨A1, n1, c1, rfl, ho1, hb1⟩
      have hn1 : n1 = 0 := by have := ho1.len; simpa using this.symm
      subst hn1
      go_wp2_with fail
      go_loopw [6, 27] (fun ov iv wr => ∃ (k m c2 : Nat) (A2 : Option Addr), k ≤ l ∧ iv = .int .i64 k ∧ ov = .slice A2 m c2 ∧ OwnI wr w.heap.size A2 m c2 (xss.take k).flatten ∧ Below w.heap.size w wr) (fun _ iv _ => l - (intOf iv).toNat)
      case atStart => exact ⟨0, 0, c1, A1, Nat.zero_le _, rfl, rfl, by rw [List.take_zero]; exact ho1, hb1⟩
      case round =>
        clear ho1 hb1
        obtain ⟨k, m, c2, A2, hk, rfl, rfl, ho, hb⟩ := hrel
        by_cases hlt : k < l
        · obtain ⟨ad, B, m2, d, rfl, hcl, hil⟩ := (HA.out.below hb).at_ hlt
          have hkx : k < xss.length := by rw [HL.out]; exact hlt
          have hm := hil.len
          have hml := ho.len
          have h2 := HFL.out (k + 1)
          have h3 := congrArg List.length (sum_take hkx)
          rw [List.length_append, hm, hml] at h3
          rw [h3] at h2
          have hsm : m + m2 ≤ 1000000 := by omega
          have HT := hide (sum_take hkx)
          have HIL := hide hil
          have HO := hide ho
          have HB := hide hb
          clear hil hm hml h2 h3 ho hb
          go_wp2_with (at_builtin; refine wpList_append_int _ rfl (.tmp 31) (.tmp 32) 22 rfl w.heap.size i0 Try.underlying22 HI0.out HZ0.out HZ1.out HZ2.out A2 m c2 _ rfl HO.out B m2 d _ rfl HIL.out (by omega) HB.out.size ?_; intro A8 c8 w8 hap)
          have hN := hap.own
          rw [← HT.out] at hN
          have hb8 := HB.out.grown hap.grown HB.out.size (fun j hj => (HO.out.lt j (by rw [ownBlock_len A2 m (m + m2) c2 c2]; exact hj)).1)
          clear hap
          go_roundw
          case rel => exact ⟨k + 1, m + m2, c8, A8, by omega, by go_num, rfl, hN, hb8⟩
          case measure => simp [intOf]; omega
        · have HO : Hid (OwnI wr w.heap.size A2 m c2 xss.flatten) := by
            rw [List.take_of_length_le (by rw [HL.out]; omega)] at ho
            exact ho
          go_wp2
          go_ret
          exact ⟨A2, m, c2, rfl, HO.out, hb⟩
end Go.Proofs.Ytoaiblhlpdaeoaa
/- What package freegroup's functions are to answer (words alone), and what follows for the facts free and reduced that the laws begin with. -/
namespace Go.Proofs.Ytoaiblhlpdaeoaa
set_option linter.unusedVariables false
set_option linter.unusedSimpArgs false
open Go.RowKit

/-- A slice and an error. -/
def GivesLE (w : World) (err : Int) (xs : List Int) (e : Ending) (w' : World) : Prop :=
  ∃ A n c, e = .returned (.tuple #[.slice A n c, .int .i64 err]) ∧ SL w' A n c xs ∧ Below w.heap.size w w'

/-- The same, the slice in memory that was not there before. -/
def GivesLEn (w : World) (err : Int) (xs : List Int) (e : Ending) (w' : World) : Prop :=
  ∃ A n c, e = .returned (.tuple #[.slice A n c, .int .i64 err]) ∧ SL w' A n c xs ∧ (0 < n → ∀ ad, A = some ad → w.heap.size ≤ ad.block) ∧ Below w.heap.size w w'
theorem GivesLEn.le {w : World} {err : Int} {xs : List Int} {e : Ending} {w' : World} (h : GivesLEn w err xs e w') : GivesLE w err xs e w' := by
  obtain ⟨A, n, c, h1, h2, _, h3⟩ := h
  exact ⟨A, n, c, h1, h2, h3⟩

end Go.Proofs.Ytoaiblhlpdaeoaa
/- Images under short braid words are short; what package artin's functions are to answer. -/
namespace Go.Proofs.Ytoaiblhlpdaeoaa
set_option linter.unusedVariables false
set_option linter.unusedSimpArgs false
open Go.RowKit

theorem artL_len3 (y z : Int) : (artL y z).length ≤ 3 := by
  unfold artL artV
  (repeat' split) <;> simp [invw]
theorem artW_len3 (y : Int) : ∀ u : List Int, (artW y u).length ≤ 3 * u.length
  | [] => Nat.le_refl _
  | z :: u => by
    rw [artW_cons, List.length_append, List.length_cons]
    have := artW_len3 y u
    have := artL_len3 y z
    omega
def sixL : List Int := [1, -1, 2, -2, 3, -3, 4, -4, 5, -5]
theorem sixL_mem {y : Int} (h0 : y ≠ 0) (h : y.natAbs < 6) : y ∈ sixL := by
  have : y = 1 ∨ y = -1 ∨ y = 2 ∨ y = -2 ∨ y = 3 ∨ y = -3 ∨ y = 4 ∨ y = -4 ∨ y = 5 ∨ y = -5 := by omega
  rcases this with rfl | rfl | rfl | rfl | rfl | rfl | rfl | rfl | rfl | rfl <;> decide
def chkA : Nat → List Int → Bool
  | 0, u => decide (u.length ≤ 54)
  | d + 1, u => decide (u.length * 3 ^ (d + 1) ≤ 54) || (decide (u.length ≤ 54) && sixL.all fun y => chkA d (nf (artW y u)))
theorem artF_len : ∀ (w u : List Int), (artF w u).length ≤ u.length * 3 ^ w.length
  | [], u => by show u.length ≤ _; simp
  | y :: w, u => by
    show (artF w (nf (artW y u))).length ≤ _
    have h1 := artF_len w (nf (artW y u))
    have h2 := nf_len_le (artW y u)
    have h3 := artW_len3 y u
    have h4 : (nf (artW y u)).length * 3 ^ w.length ≤ (3 * u.length) * 3 ^ w.length := Nat.mul_le_mul_right _ (by omega)
    rw [List.length_cons, Nat.pow_succ, Nat.mul_comm (3 ^ w.length), ← Nat.mul_assoc, Nat.mul_comm u.length]
    omega
theorem chkA_spec : ∀ (d : Nat) (u : List Int), chkA d u = true → ∀ w : List Int, w.length ≤ d → (∀ y ∈ w, y ≠ 0 ∧ y.natAbs < 6) → (artF w u).length ≤ 54
  | 0, u, h, w, hw, _ => by
    rw [List.eq_nil_of_length_eq_zero (by omega : w.length = 0)]
    show u.length ≤ 54
    simpa [chkA] using h
  | d + 1, u, h, w, hw, hl => by
    unfold chkA at h
    rw [Bool.or_eq_true] at h
    rcases h with h | h
    · have h := of_decide_eq_true h
      have h1 := artF_len w u
      have h2 : 3 ^ w.length ≤ 3 ^ (d + 1) := Nat.pow_le_pow_right (by omega) hw
      have h3 := Nat.mul_le_mul_left u.length h2
      omega
    · rw [Bool.and_eq_true] at h
      cases w with
      | nil => exact of_decide_eq_true h.1
      | cons y w =>
        have h2 := List.all_eq_true.1 h.2 y (sixL_mem (hl y (by simp)).1 (hl y (by simp)).2)
        exact chkA_spec d _ h2 w (by simpa using hw) fun z hz => hl z (by simp [hz])
theorem chkA_all : ([1, 2, 3, 4, 5, 6] : List Int).all (fun z => chkA 5 [z]) = true := by decide +kernel
theorem artW_far {y : Int} {k : Nat} (h : y.natAbs + 1 < k) : artW y [(k : Int)] = [(k : Int)] := by
  rw [artW_one, artL_o (by omega) (by omega)]
theorem artC_far {k : Nat} : ∀ {w : List Int}, (∀ y ∈ w, y.natAbs + 1 < k) → artC w [(k : Int)] = [(k : Int)]
  | [], _ => rfl
  | y :: w, h => by
    rw [artC_cons, artW_far (h y (by simp))]
    exact artC_far fun z hz => h z (by simp [hz])
theorem img5 {w : List Int} (hw : ∀ y ∈ w, y ≠ 0 ∧ y.natAbs < 6) (hl : w.length ≤ 5) {z : Int} (hz : z ≠ 0) : (nf (artC w [z])).length ≤ 54 := by
  have hnz : nz w := fun y hy => (hw y hy).1
  have pos : ∀ k : Nat, 0 < k → (nf (artC w [(k : Int)])).length ≤ 54 := fun k hk => by
    by_cases h6 : k ≤ 6
    · have h1 : chkA 5 [(k : Int)] = true := List.all_eq_true.1 chkA_all _ (by
        have : k = 1 ∨ k = 2 ∨ k = 3 ∨ k = 4 ∨ k = 5 ∨ k = 6 := by omega
        rcases this with rfl | rfl | rfl | rfl | rfl | rfl <;> decide)
      have h2 := chkA_spec 5 _ h1 w hl hw
      have h3 := artF_nf hnz (u := [(k : Int)]) (fun x hx => by simp at hx; omega)
      rw [show nf [(k : Int)] = [(k : Int)] from rfl] at h3
      rw [← h3]
      exact h2
    · rw [artC_far fun y hy => by have := (hw y hy).2; omega]
      exact Nat.le_trans (nf_len_le _) (by simp)
  rcases Int.natAbs_eq z with e | e
  · rw [e]; exact pos _ (by omega)
  · have h1 := artC_invw (w := w) (u := [(z.natAbs : Int)]) hnz (fun x hx => by simp at hx; omega)
    rw [show invw [(z.natAbs : Int)] = [z] by simp [invw]; omega] at h1
    rw [h1, nf_invw, invw_length]
    exact pos _ (by omega)
theorem imgs5 {w : List Int} (hw : ∀ y ∈ w, y ≠ 0 ∧ y.natAbs < 6) (hl : w.length ≤ 5) : ∀ {u : List Int}, nz u → (nf (artC w u)).length ≤ 54 * u.length
  | [], _ => by rw [artC_nil]; exact Nat.le_refl _
  | z :: u, h => by
    have e : artC w (z :: u) = artC w [z] ++ artC w u := artC_append w [z] u
    have h1 := img5 hw hl (z := z) (h z (by simp))
    have h2 := imgs5 hw hl (u := u) fun x hx => h x (by simp [hx])
    rw [e, ← nf_left, ← nf_right]
    have h3 := nf_len_le (nf (artC w [z]) ++ nf (artC w u))
    rw [List.length_append] at h3
    rw [List.length_cons]
    omega
/-- Words of at most 10 letters. -/
theorem img10 {w : List Int} (hw : ∀ y ∈ w, y ≠ 0 ∧ y.natAbs < 6) (hl : w.length ≤ 10) {z : Int} (hz : z ≠ 0) : (nf (artC w [z])).length ≤ 3000 := by
  have e : w = w.take 5 ++ w.drop 5 := (List.take_append_drop 5 w).symm
  have m1 : ∀ y ∈ w.take 5, y ≠ 0 ∧ y.natAbs < 6 := fun y hy => hw y (List.mem_of_mem_take hy)
  have m2 : ∀ y ∈ w.drop 5, y ≠ 0 ∧ y.natAbs < 6 := fun y hy => hw y (List.mem_of_mem_drop hy)
  have n1 : nz (w.take 5) := fun y hy => (m1 y hy).1
  have n2 : nz (w.drop 5) := fun y hy => (m2 y hy).1
  have hz1 : nz [z] := fun x hx => by simp at hx; omega
  rw [e, artC_app]
  have h1 := img5 m1 (by simp; omega) hz
  have h2 := imgs5 m2 (by simp; omega) (u := nf (artC (w.take 5) [z])) (artC_nz n1 hz1).nf
  rw [artC_congr n2 (artC_nz n1 hz1) (artC_nz n1 hz1).nf (nf_nf _).symm]
  omega

/-- The images. -/
def imgs (n : Nat) (w : List Int) : List (List Int) := (List.range n).map fun (s : Nat) => nf (artC w [((s : Nat) : Int) + 1])
theorem okB_nz {n : Nat} {w : List Int} (h : okB n w) : nz w := fun x hx => by have := h x hx; omega
theorem okB_app {n : Nat} {a b : List Int} (ha : okB n a) (hb : okB n b) : okB n (a ++ b) := fun x hx => (List.mem_append.1 hx).elim (ha x) (hb x)
theorem okB_inv {n : Nat} {a : List Int} (ha : okB n a) : okB n (invw a) := fun x hx => by
  unfold invw at hx
  obtain ⟨z, hz, rfl⟩ := List.mem_map.1 (List.mem_reverse.1 hx)
  have := ha z hz
  omega
theorem imgs_fix {n : Nat} {w : List Int} (hw : okB n w) : RelA w [] ↔ (List.range n).all (fun (s : Nat) => eqB (artF w [((s : Nat) : Int) + 1]) [((s : Nat) : Int) + 1]) = true := by
  have hf : ∀ s : Nat, artF w [((s : Nat) : Int) + 1] = nf (artC w [((s : Nat) : Int) + 1]) := fun s => by
    have h := artF_nf (w := w) (u := [((s : Nat) : Int) + 1]) (okB_nz hw) (fun x hx => by simp at hx; omega)
    rwa [show nf [((s : Nat) : Int) + 1] = [((s : Nat) : Int) + 1] from rfl] at h
  rw [List.all_eq_true]
  constructor
  · intro h s _
    rw [hf]
    exact eqB_true (h _ fun z hz => by simp at hz; omega)
  · intro h
    refine relA_of (okB_nz hw) nz_nil fun k hk => ?_
    by_cases hkn : k ≤ n
    · have e := eqB_iff.1 (h (k - 1) (List.mem_range.2 (by omega)))
      rw [hf, show (((k - 1 : Nat) : Int) + 1) = (k : Int) by omega] at e
      exact e
    · rw [artC_far fun y hy => by have := hw y hy; omega]
      rfl
end Go.Proofs.Ytoaiblhlpdaeoaa
/- How long the images under words of permutation braids can be. -/
namespace Go.Proofs.Ytoaiblhlpdaeoaa
set_option linter.unusedVariables false
set_option linter.unusedSimpArgs false
open Gar

/-- Images of letters under w are no longer than B. -/
def LB (w : List Int) (B : Nat) : Prop := ∀ z : Int, z ≠ 0 → (nf (artC w [z])).length ≤ B
theorem LB.all {w : List Int} {B : Nat} (h : LB w B) : ∀ {u : List Int}, nz u → (nf (artC w u)).length ≤ B * u.length
  | [], _ => by rw [artC_nil]; exact Nat.zero_le _
  | z :: u, hu => by
    have e : artC w (z :: u) = artC w [z] ++ artC w u := artC_append w [z] u
    have h1 := h z (hu z (by simp))
    have h2 := h.all (u := u) fun x hx => hu x (by simp [hx])
    rw [e, ← nf_left, ← nf_right]
    have h3 := nf_len_le (nf (artC w [z]) ++ nf (artC w u))
    rw [List.length_append] at h3
    rw [List.length_cons, Nat.mul_succ]
    omega
theorem LB.mul {u v : List Int} {B C : Nat} (hu : nz u) (hv : nz v) (h : LB u B) (k : LB v C) : LB (u ++ v) (C * B) := fun z hz => by
  have hz1 : nz [z] := fun x hx => by simp at hx; omega
  rw [artC_app]
  have h1 := h z hz
  have h2 := k.all (u := nf (artC u [z])) (artC_nz hu hz1).nf
  rw [artC_congr hv (artC_nz hu hz1) (artC_nz hu hz1).nf (nf_nf _).symm]
  exact Nat.le_trans h2 (Nat.mul_le_mul_left _ h1)
theorem LB.rel {a b : List Int} {B : Nat} (h : LB a B) (e : RelA a b) : LB b B := fun z hz => by
  rw [← e [z] (fun x hx => by simp at hx; omega)]
  exact h z hz
theorem LB.mono {a : List Int} {B C : Nat} (h : LB a B) (k : B ≤ C) : LB a C := fun z hz => Nat.le_trans (h z hz) k
theorem LB.nil_ : LB [] 1 := fun z hz => Nat.le_trans (nf_len_le _) (by show [z].length ≤ 1; simp)
theorem LB.short {w : List Int} (hw : ∀ y ∈ w, y ≠ 0 ∧ y.natAbs < 6) (hl : w.length ≤ 10) : LB w 3000 := fun z hz => img10 hw hl hz
/-- It is enough to look at the letters that w can change. -/
theorem LB.of_gens {N B : Nat} {w : List Int} (hw : okB N w) (hB : 1 ≤ B) (h : ∀ k : Nat, 0 < k → k ≤ N → (artF w [(k : Int)]).length ≤ B) : LB w B := fun z hz => by
  have hnz : nz w := okB_nz hw
  have pos : ∀ k : Nat, 0 < k → (nf (artC w [(k : Int)])).length ≤ B := fun k hk => by
    by_cases h6 : k ≤ N
    · have h3 := artF_nf hnz (u := [(k : Int)]) (fun x hx => by simp at hx; omega)
      rw [show nf [(k : Int)] = [(k : Int)] from rfl] at h3
      rw [← h3]
      exact h k hk h6
    · rw [artC_far fun y hy => by have := (hw y hy).2; omega]
      exact Nat.le_trans (nf_len_le _) (by simpa using hB)
  rcases Int.natAbs_eq z with e | e
  · rw [e]; exact pos _ (by omega)
  · have h1 := artC_invw (w := w) (u := [(z.natAbs : Int)]) hnz (fun x hx => by simp at hx; omega)
    rw [show invw [(z.natAbs : Int)] = [z] by simp [invw]; omega] at h1
    rw [h1, nf_invw, invw_length]
    exact pos _ (by omega)
/-- All arrangements. -/
def allP (n : Nat) (f : List Nat → Bool) : Nat → List Nat → Bool
  | 0, pre => f pre
  | k + 1, pre => (List.range n).all fun a => pre.contains a || allP n f k (pre ++ [a])
theorem allP_spec {n : Nat} {f : List Nat → Bool} : ∀ (k : Nat) (pre q : List Nat), allP n f k pre = true → q.length = k → (pre ++ q).Nodup → (∀ a ∈ q, a < n) → f (pre ++ q) = true
  | 0, pre, q, h, hq, _, _ => by
    rw [List.eq_nil_of_length_eq_zero hq, List.append_nil]
    exact h
  | k + 1, pre, q, h, hq, hn, hl => by
    cases q with
    | nil => simp at hq
    | cons a q =>
      have h1 := List.all_eq_true.1 h a (List.mem_range.2 (hl a (by simp)))
      have h2 : pre.contains a = false := by
        have := List.nodup_append.1 hn
        rw [List.contains_eq_mem]
        simp only [decide_eq_false_iff_not]
        exact fun hm => this.2.2 a hm a (by simp) rfl
      rw [h2, Bool.false_or] at h1
      have h3 := allP_spec k (pre ++ [a]) q h1 (by simpa using hq) (by simpa using hn) fun b hb => hl b (by simp [hb])
      simpa using h3
/-- The word of a permutation. -/
def wrd (p : List Nat) : List Int := (spl (p.length * p.length) p).map up
def fitP (n : Nat) (p : List Nat) : Bool := (List.range n).all fun (k : Nat) => decide ((artF (wrd p) [(k : Int) + 1]).length ≤ 11) && decide ((artF (invw (wrd p)) [(k : Int) + 1]).length ≤ 11)
theorem fit2 : allP 2 (fitP 2) 2 [] = true := by decide +kernel
theorem fit3 : allP 3 (fitP 3) 3 [] = true := by decide +kernel
theorem fit4 : allP 4 (fitP 4) 4 [] = true := by decide +kernel
theorem fit5 : allP 5 (fitP 5) 5 [] = true := by decide +kernel
theorem fit6 : allP 6 (fitP 6) 6 [] = true := by decide +kernel
theorem fit_all {n : Nat} (h2 : 2 ≤ n) (h6 : n ≤ 6) {p : List Nat} (hp : isP p) (hl : p.length = n) : fitP n p = true := by
  have hlt : ∀ a ∈ p, a < n := fun a ha => by rw [← hl]; exact hp.1 a ha
  have key : allP n (fitP n) n [] = true := by
    have : n = 2 ∨ n = 3 ∨ n = 4 ∨ n = 5 ∨ n = 6 := by omega
    rcases this with rfl | rfl | rfl | rfl | rfl
    · exact fit2
    · exact fit3
    · exact fit4
    · exact fit5
    · exact fit6
  exact allP_spec n [] p key hl (by simpa using hp.2) hlt
def halfW (n : Nat) : List Int := wrd (fullL n)
def fitH (n : Nat) : Bool := (List.range 9).all fun q => (List.range n).all fun (k : Nat) => decide ((artF (rep (halfW n) q) [(k : Int) + 1]).length ≤ 60) && decide ((artF (rep (invw (halfW n)) q) [(k : Int) + 1]).length ≤ 60)
theorem fitH_all : (fitH 2 && fitH 3 && fitH 4 && fitH 5 && fitH 6) = true := by decide +kernel
end Go.Proofs.Ytoaiblhlpdaeoaa
