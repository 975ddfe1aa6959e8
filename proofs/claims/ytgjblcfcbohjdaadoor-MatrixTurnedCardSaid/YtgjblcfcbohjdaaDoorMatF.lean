/- timbref1.MatrixFault: which lists of rows are matrices. -/
import Derived.Test.YtgjblcfcbohjdaaDoorSl
namespace Go.Proofs.YtgjblcfcbohjdaaDoor
set_option linter.unusedVariables false
set_option linter.unusedSimpArgs false
open Go.RowKit

def okE (x : Int) : Bool := decide (x ≤ 100 ∧ -100 ≤ x)
def mrow (k : Nat) (r : List Int) : Int := if 6 < r.length then 2 else if r.length ≠ k then 3 else if r.all okE then 0 else 1
def mrows (k : Nat) : List (List Int) → Int
  | [] => 0
  | r :: t => if mrow k r = 0 then mrows k t else mrow k r
def mfault (xss : List (List Int)) : Int := if 6 < xss.length then 2 else mrows (xss.getD 0 []).length xss
theorem mrows_step {k : Nat} {xss : List (List Int)} {j : Nat} (hj : j < xss.length) : mrows k (xss.drop j) = if mrow k (xss.getD j []) = 0 then mrows k (xss.drop (j + 1)) else mrow k (xss.getD j []) := by
  rw [List.drop_eq_getElem_cons hj]
  have e : xss.getD j [] = xss[j] := by simp [List.getD, List.getElem?_eq_getElem hj]
  rw [e]
  rfl
theorem mrows_zero {k : Nat} : ∀ {xss : List (List Int)}, mrows k xss = 0 → ∀ r ∈ xss, mrow k r = 0
  | [], _, r, hr => by cases hr
  | x :: t, h, r, hr => by
    unfold mrows at h
    by_cases h0 : mrow k x = 0
    · rw [if_pos h0] at h
      rcases List.mem_cons.1 hr with rfl | hr
      · exact h0
      · exact mrows_zero h r hr
    · rw [if_neg h0] at h
      exact absurd h h0
theorem mrow_zero {k : Nat} {r : List Int} (h : mrow k r = 0) : r.length = k ∧ k ≤ 6 ∧ ∀ x ∈ r, x ≤ 100 ∧ -100 ≤ x := by
  unfold mrow at h
  by_cases h1 : 6 < r.length
  · rw [if_pos h1] at h; cases h
  · rw [if_neg h1] at h
    by_cases h2 : r.length ≠ k
    · rw [if_pos h2] at h; cases h
    · rw [if_neg h2] at h
      by_cases h3 : r.all okE = true
      · exact ⟨by omega, by omega, fun x hx => by have := List.all_eq_true.1 h3 x hx; simpa [okE] using this⟩
      · rw [if_neg h3] at h; cases h
theorem mrow_ok {k : Nat} {r : List Int} (h1 : r.length = k) (h2 : k ≤ 6) (h3 : ∀ x ∈ r, x ≤ 100 ∧ -100 ≤ x) : mrow k r = 0 := by
  unfold mrow
  rw [if_neg (by omega), if_neg (by omega), if_pos (List.all_eq_true.2 fun x hx => by simpa [okE] using h3 x hx)]
theorem mrows_ok {k : Nat} : ∀ {xss : List (List Int)}, (∀ r ∈ xss, mrow k r = 0) → mrows k xss = 0
  | [], _ => rfl
  | x :: t, h => by
    unfold mrows
    rw [if_pos (h x (by simp)), mrows_ok fun r hr => h r (by simp [hr])]
/-- What a right matrix is. -/
theorem mfault_zero {xss : List (List Int)} (h : mfault xss = 0) : xss.length ≤ 6 ∧ (xss.getD 0 []).length ≤ 6 ∧ ∀ r ∈ xss, r.length = (xss.getD 0 []).length ∧ ∀ x ∈ r, x ≤ 100 ∧ -100 ≤ x := by
  unfold mfault at h
  by_cases h1 : 6 < xss.length
  · rw [if_pos h1] at h; cases h
  · rw [if_neg h1] at h
    refine ⟨by omega, ?_, fun r hr => ?_⟩
    · cases xss with
      | nil => simp
      | cons r t =>
        have := mrow_zero (mrows_zero h r (by simp))
        omega
    · have := mrow_zero (mrows_zero h r hr)
      exact ⟨this.1, this.2.2⟩
theorem mfault_ok {xss : List (List Int)} {k : Nat} (h1 : xss.length ≤ 6) (h2 : k ≤ 6) (h : ∀ r ∈ xss, r.length = k ∧ ∀ x ∈ r, x ≤ 100 ∧ -100 ≤ x) : mfault xss = 0 := by
  unfold mfault
  rw [if_neg (by omega)]
  cases xss with
  | nil => rfl
  | cons r t =>
    have e : ((r :: t).getD 0 []).length = k := (h r (by simp)).1
    rw [e]
    exact mrows_ok fun r hr => mrow_ok (h r hr).1 h2 (h r hr).2
theorem getD_memI {l : List Int} {j : Nat} (h : j < l.length) : l.getD j 0 ∈ l := by
  rw [show l.getD j 0 = l[j] by simp [List.getD, List.getElem?_eq_getElem h]]
  exact List.getElem_mem _
theorem all_take_okE {w : List Int} {k : Nat} (hk : k < w.length) : (w.take (k + 1)).all okE = ((w.take k).all okE && okE (w.getD k 0)) := by
  rw [List.take_succ_eq_append_getElem hk, List.all_append]
  simp [List.getD, List.getElem?_eq_getElem hk]

set_option maxRecDepth 100000 in
set_option maxHeartbeats 2000000 in
theorem matFault_any (A : Option Addr) (n c : Nat) (xss : List (List Int)) (w : World) (ha : ILL w A n xss) :
    Calls Tryd.prog 11 #[.slice A n c] w fun e w' => e = .returned (.int .i64 (mfault xss)) ∧ w = w' := by
  have hl := ha.len
  have hns := ha.small
  have HA := hide ha
  have HL := hide hl
  by_cases h6 : 6 < n
  · have HF : Hid (mfault xss = 2) := hide (by unfold mfault; rw [if_pos (by omega)])
    clear ha hl
    go_enter Tryd.func11, Tryd.ntmps11
    go_wp2
    go_ret
    rw [HF.out]
    exact ⟨rfl, rfl⟩
  · have HF : Hid (mfault xss = mrows (xss.getD 0 []).length xss) := hide (by unfold mfault; rw [if_neg (by omega)])
    clear ha hl
    go_enter Tryd.func11, Tryd.ntmps11
    go_wp2
    go_loop [12] (fun iv => ∃ k : Nat, k ≤ n ∧ iv = .int .i64 k ∧ Hid (mfault xss = mrows (xss.getD 0 []).length (xss.drop k))) (fun iv => n - (intOf iv).toNat)
    case atStart => exact ⟨0, Nat.zero_le _, rfl, by rw [List.drop_zero]; exact HF.out⟩
    case round =>
      obtain ⟨k, hk, rfl, HK⟩ := hrel
      by_cases hlt : k < n
      · obtain ⟨ad, B, m, d, rfl, hcl, hil⟩ := HA.out.at_ hlt
        obtain ⟨ad', B0, m0, d0, e, hcl0, hil0⟩ := HA.out.at_ (k := 0) (by omega)
        injection e with e
        subst e
        rw [show ad.add 0 = ad by unfold Addr.add; simp] at hcl0
        have hm := hil.len
        have hm0 := hil0.len
        have hms := hil.small
        have HST := hide (mrows_step (k := (xss.getD 0 []).length) (xss := xss) (j := k) (by rw [HL.out]; exact hlt))
        have HIL := hide hil
        have HROW : Hid (mrow (xss.getD 0 []).length (xss.getD k []) = if 6 < m then 2 else if m ≠ m0 then 3 else if (xss.getD k []).all okE then 0 else 1) := hide (by unfold mrow; rw [hm, hm0])
        have HM := hide hm
        clear hil hil0 hm hm0
        by_cases h1 : 6 < m
        · have HE : Hid (mfault xss = 2) := hide (by rw [HK.out, HST.out, HROW.out, if_pos h1]; rfl)
          clear HST HROW
          go_wp2
          go_ret
          rw [HE.out]
          exact ⟨rfl, rfl⟩
        · by_cases h2 : m = m0
          · subst h2
            have HROW2 : Hid (mrow (xss.getD 0 []).length (xss.getD k []) = if (xss.getD k []).all okE then 0 else 1) := hide (by rw [HROW.out, if_neg h1, if_neg (by omega)])
            have hbe : ((m : Int) != (m : Int)) = false := by simp
            clear HROW
            go_wp2
            go_loop [28] (fun jv => ∃ j : Nat, j ≤ m ∧ jv = .int .i64 j ∧ Hid (((xss.getD k []).take j).all okE = true)) (fun jv => m - (intOf jv).toNat)
            case atStart => exact ⟨0, Nat.zero_le _, rfl, by rw [List.take_zero]; exact rfl⟩
            case round =>
              obtain ⟨j, hj, rfl, HJ⟩ := hrel
              by_cases hjl : j < m
              · obtain ⟨bd, rfl, hx⟩ := HIL.out.at_ hjl
                have HT := hide (all_take_okE (w := xss.getD k []) (k := j) (by rw [HM.out]; exact hjl))
                have HMEM : Hid ((xss.getD k []).getD j 0 ∈ xss.getD k []) := hide (getD_memI (by rw [HM.out]; exact hjl))
                obtain ⟨x, hxe⟩ : ∃ x, (xss.getD k []).getD j 0 = x := ⟨_, rfl⟩
                rw [hxe] at hx HT HMEM
                clear hxe
                by_cases hok : x ≤ 100 ∧ -100 ≤ x
                · have HN : Hid (((xss.getD k []).take (j + 1)).all okE = true) := hide (by rw [HT.out, HJ.out]; simp [okE, hok])
                  obtain ⟨ho1, ho2⟩ := hok
                  clear HT HJ
                  go_wp2
                  go_round
                  case rel => exact ⟨j + 1, by omega, by go_num, HN.out⟩
                  case measure => simp [intOf]; omega
                · have HN : Hid ((xss.getD k []).all okE = false) := hide (by
                    rw [Bool.eq_false_iff]
                    intro h
                    have := List.all_eq_true.1 h x HMEM.out
                    exact hok (by simpa [okE] using this))
                  have HE : Hid (mfault xss = 1) := hide (by rw [HK.out, HST.out, HROW2.out, HN.out]; rfl)
                  clear HT HJ HST HROW2
                  by_cases h3 : 100 < x
                  · clear hok
                    go_wp2
                    go_ret
                    rw [HE.out]
                    exact ⟨rfl, rfl⟩
                  · have h4 : x < -100 := by omega
                    clear hok
                    go_wp2
                    go_ret
                    rw [HE.out]
                    exact ⟨rfl, rfl⟩
              · have HALL : Hid ((xss.getD k []).all okE = true) := hide (by
                  have := HJ.out
                  rwa [List.take_of_length_le (by rw [HM.out]; omega)] at this)
                have HN : Hid (mfault xss = mrows (xss.getD 0 []).length (xss.drop (k + 1))) := hide (by rw [HK.out, HST.out, HROW2.out, HALL.out]; rfl)
                clear HJ HST HROW2 HALL
                go_wp2
                go_round
                case rel => exact ⟨k + 1, by omega, by go_num, HN.out⟩
                case measure => simp [intOf]; omega
          · have hbe : ((m : Int) != (m0 : Int)) = true := by simp; omega
            have HE : Hid (mfault xss = 3) := hide (by rw [HK.out, HST.out, HROW.out, if_neg h1, if_pos h2]; rfl)
            clear HST HROW h2
            go_wp2
            go_ret
            rw [HE.out]
            exact ⟨rfl, rfl⟩
      · have HE : Hid (mfault xss = 0) := hide (by rw [HK.out, List.drop_of_length_le (by rw [HL.out]; omega)]; rfl)
        go_wp2
        go_ret
        rw [HE.out]
        exact ⟨rfl, rfl⟩
end Go.Proofs.YtgjblcfcbohjdaaDoor
