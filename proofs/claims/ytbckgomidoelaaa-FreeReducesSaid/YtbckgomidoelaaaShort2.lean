/- timbref1.Short: the reduced form. -/
import Derived.Test.YtbckgomidoelaaaOpp
import Derived.Test.YtbckgomidoelaaaDelete2
import Derived.Test.YtbckgomidoelaaaTimes
namespace Go.Proofs.Ytbckgomidoelaaa
set_option linter.unusedVariables false
set_option linter.unusedSimpArgs false
open Go.RowKit

/-- The word, reduced from letter k on. -/
def shK (xs : List Int) (k : Nat) : List Int := xs.take k ++ nf (xs.drop k)
theorem shK_succ {xs : List Int} {i : Nat} (h : i < xs.length) : shK xs (i + 1) = xs.take i ++ xs.getD i 0 :: nf (xs.drop (i + 1)) := by
  unfold shK
  rw [List.take_succ_eq_append_getElem h, List.append_assoc]
  simp [List.getD, List.getElem?_eq_getElem h]
theorem shK_cns {xs : List Int} {i : Nat} (h : i < xs.length) : shK xs i = xs.take i ++ cns (xs.getD i 0) (nf (xs.drop (i + 1))) := by
  unfold shK
  rw [List.drop_eq_getElem_cons h]
  rw [show xs.getD i 0 = xs[i] by simp [List.getD, List.getElem?_eq_getElem h]]
  rfl
theorem getD_mid (a : List Int) (x : Int) (t : List Int) : (a ++ x :: t).getD a.length 0 = x := by simp [List.getD]
theorem getD_mid2 (a : List Int) (x y : Int) (t : List Int) : (a ++ x :: y :: t).getD (a.length + 1) 0 = y := by
  simp only [List.getD]
  rw [List.getElem?_append_right (by omega)]
  simp
theorem without2_mid (a : List Int) (x y : Int) (t : List Int) : without2 (a ++ x :: y :: t) a.length = a ++ t := by
  unfold without2
  rw [List.take_left, List.drop_append, List.drop_of_length_le (by omega), show a.length + 2 - a.length = 2 by omega]
  simp

set_option maxRecDepth 100000 in
set_option maxHeartbeats 2000000 in
theorem short_any (A : Option Addr) (n c : Nat) (xs : List Int) (w : World) (ha : IL w A n xs) (hc : A = none → n = 0 ∧ c = 0) (hb : ∀ x ∈ xs, -1000 ≤ x ∧ x ≤ 1000) :
    Calls Try.prog 11 #[.slice A n c] w (GivesOwn w (nf xs)) := by
  have hl := ha.len
  have hna := ha.small
  have HL := hide hl
  have HB := hide hb
  have HC := hide (clone_any A n c xs w ha hc)
  clear ha hl hb hc
  go_enter Try.func11, Try.ntmps11
  go_wp2_with fail
  refine HC.out.mono ?_
  rintro e w1 ⟨A1, n1, c1, rfl, ho1, hb1⟩
  have hn1 : n1 = n := by rw [← ho1.len]; exact HL.out
  subst hn1
  have HS : Hid (OwnI w1 w.heap.size A1 n1 c1 (shK xs (n1 - 1))) := by
    have : shK xs (n1 - 1) = xs := by
      by_cases h0 : n1 = 0
      · rw [List.eq_nil_of_length_eq_zero (show xs.length = 0 by rw [HL.out]; exact h0)]; simp [shK, nf, act]
      · have hlt : n1 - 1 < xs.length := by rw [HL.out]; omega
        unfold shK
        rw [List.drop_eq_getElem_cons hlt, List.drop_of_length_le (by rw [HL.out]; omega)]
        rw [show nf [xs[n1 - 1]] = [xs[n1 - 1]] from rfl]
        rw [← List.take_succ_eq_append_getElem hlt, List.take_of_length_le (by rw [HL.out]; omega)]
    rw [this]
    exact ho1
  have HST : Hid ((n1 : Int) - 2 = ((n1 - 1 : Nat) : Int) - 1 ∨ ((n1 : Int) - 2 < 0 ∧ n1 - 1 = 0)) := hide (by omega)
  clear ho1
  go_wp2_with fail
  go_loopw [0, 3] (fun sv iv wr => ∃ (m k : Nat) (j : Int), sv = .slice A1 m c1 ∧ iv = .int .i64 j ∧ k ≤ n1 - 1 ∧ -2 ≤ j ∧ j ≤ 17592186044416 ∧ Hid (j = (k : Int) - 1 ∨ (j < 0 ∧ k = 0)) ∧ Hid (OwnI wr w.heap.size A1 m c1 (shK xs k)) ∧ Below w.heap.size w wr) (fun _ iv _ => (intOf iv + 1).toNat)
  case atStart => exact ⟨n1, n1 - 1, (n1 : Int) - 2, rfl, rfl, by omega, by omega, by omega, HST.out, HS.out, hb1⟩
  case round =>
    clear HS HST hb1
    obtain ⟨m, k, j, rfl, rfl, hk, hj0, hj1, HJ, HO, hb⟩ := hrel
    by_cases hneg : j < 0
    · have HE : Hid (OwnI wr w.heap.size A1 m c1 (nf xs)) := by
        have hk0 : k = 0 := by have := HJ.out; omega
        have := HO.out
        rw [hk0] at this
        exact this
      go_wp2
      go_ret
      exact ⟨_, _, _, rfl, HE.out, hb⟩
    · obtain ⟨i, rfl⟩ : ∃ i : Nat, j = i := ⟨j.toNat, by omega⟩
      have hki : k = i + 1 := by have := HJ.out; omega
      have hil : i < xs.length := by rw [HL.out]; omega
      have HSU := hide (shK_succ hil)
      have HCN := hide (shK_cns hil)
      have hm : xs.getD i 0 ∈ xs := by
        rw [show xs.getD i 0 = xs[i] by simp [List.getD, List.getElem?_eq_getElem hil]]
        exact List.getElem_mem _
      obtain ⟨hx0, hx1⟩ := HB.out _ hm
      have htl : (xs.take i).length = i := by rw [List.length_take]; omega
      have hmem : ∀ y ∈ nf (xs.drop (i + 1)), -1000 ≤ y ∧ y ≤ 1000 := fun y hy => HB.out y (List.mem_of_mem_drop (nf_mem hy))
      have HM := hide hmem
      obtain ⟨x, hx⟩ : ∃ x, xs.getD i 0 = x := ⟨_, rfl⟩
      obtain ⟨t, ht⟩ : ∃ t, nf (xs.drop (i + 1)) = t := ⟨_, rfl⟩
      obtain ⟨a, ha⟩ : ∃ a, xs.take i = a := ⟨_, rfl⟩
      rw [hx, ht, ha] at HSU HCN
      rw [hx] at hx0 hx1
      rw [ht] at HM
      rw [ha] at htl
      rw [hki, HSU.out] at HO
      have hml := HO.out.len
      have hms := HO.out.small
      rw [List.length_append, List.length_cons, htl] at hml
      obtain ⟨g, rfl, hg1, hg2⟩ := HO.out.form (by omega)
      have HNJ : Hid ((i : Int) - 1 = (i : Int) - 1) := rfl
      have hin : i ≤ n1 - 1 := by omega
      clear hm hmem hx ht ha hki hil HJ HSU
      cases t with
      | nil =>
        have HN : Hid (OwnI wr w.heap.size (some ⟨g, 0, none⟩) m c1 (shK xs i)) := by rw [HCN.out]; exact HO.out
        have hmi : m = i + 1 := by rw [← hml]; rfl
        subst hmi
        have hg : decide (((i : Nat) : Int) + 1 < ((i + 1 : Nat) : Int)) = false := by simp
        have hg2 : decide (i + 1 < i + 1) = false := by simp
        clear hml HO
        go_wp2_with fail
        go_quiet (fail)
        have HN2 := hide (HN.out.drewN nq)
        have hb2 := below_drewN hb nq
        clear HN hb
        generalize wr.drewN nq = w9 at *
        go_wp2
        go_roundw
        case rel => exact ⟨i + 1, i, (i : Int) - 1, by go_num, rfl, by omega, by omega, by omega, .inl rfl, HN2.out, hb2⟩
        case measure => first | (simp [intOf]; done) | (simp [intOf]; omega)
      | cons y s =>
        have hmi : i + 1 < m := by rw [← hml, List.length_cons]; omega
        have hg : decide ((i : Int) + 1 < (m : Int)) = true := by simp; omega
        have hg2 : decide (i + 1 < m) = true := by simp; omega
        have hc1 := HO.out.cell (j := i) (by omega)
        have hc2 := HO.out.cell (j := i + 1) hmi
        have e1 : (a ++ x :: y :: s).getD i 0 = x := by rw [← htl]; exact getD_mid a x _
        have e2 : (a ++ x :: y :: s).getD (i + 1) 0 = y := by rw [← htl]; exact getD_mid2 a x y s
        rw [e1] at hc1
        rw [e2] at hc2
        obtain ⟨hy0, hy1⟩ := HM.out y (by simp)
        have hwr : IntKind.i64.wrap ((i : Int) + 1) = (i : Int) + 1 := by rw [IntKind.wrap_i64]; omega
        have hp0 : (0 : Int) ≤ (i : Int) + 1 := by omega
        have hp1 : (i : Int) + 1 < (m : Int) := by omega
        have hp2 : ((i : Int) + 1).toNat = i + 1 := by omega
        clear hml e1 e2
        by_cases hxy : x = -y
        · have hbe : (x == -y) = true := by simpa using hxy
          have HW : Hid (without2 (a ++ x :: y :: s) i = shK xs i) := hide (by
            rw [HCN.out, cns_cons, if_pos hxy]
            have := without2_mid a x y s
            rwa [htl] at this)
          clear hxy
          go_wp2_with fail
          go_quiet (fail)
          have HO2 := hide (HO.out.drewN nq)
          have hb2 := below_drewN hb nq
          clear HO hb hc1 hc2 hg2 hwr hp0 hp2
          generalize wr.drewN nq = w9 at *
          go_wp2_with fail
          refine (delete2_any w.heap.size g m c1 i _ w9 HO2.out (by omega)).mono ?_
          rintro e w10 ⟨rfl, ho10, hg10⟩
          rw [HW.out] at ho10
          have HO10 := hide ho10
          have hb10 := hb2.grown hg10 hb2.size (fun j hj => by injection hj with hj; omega)
          clear ho10 hg10 hb2 HO2
          go_wp2
          go_roundw
          case rel => exact ⟨m - 2, i, (i : Int) - 1, rfl, rfl, hin, by omega, by omega, .inl rfl, HO10.out, hb10⟩
          case measure => first | (simp [intOf]; done) | (simp [intOf]; omega)
        · have hbe : (x == -y) = false := by simpa using hxy
          have HN : Hid (OwnI wr w.heap.size (some ⟨g, 0, none⟩) m c1 (shK xs i)) := by
            rw [HCN.out, cns_cons, if_neg hxy]
            exact HO.out
          clear hxy HO
          go_wp2_with fail
          go_quiet (fail)
          have HN2 := hide (HN.out.drewN nq)
          have hb2 := below_drewN hb nq
          clear HN hb hc1 hc2 hg2 hwr hp0 hp2
          generalize wr.drewN nq = w9 at *
          go_wp2
          go_roundw
          case rel => exact ⟨m, i, (i : Int) - 1, rfl, rfl, hin, by omega, by omega, .inl rfl, HN2.out, hb2⟩
          case measure => first | (simp [intOf]; done) | (simp [intOf]; omega)
end Go.Proofs.Ytbckgomidoelaaa
