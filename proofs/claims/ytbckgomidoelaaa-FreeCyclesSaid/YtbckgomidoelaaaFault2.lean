/- timbref1.FreeFault: which words are words. -/
import Derived.Test.YtbckgomidoelaaaEqual
import Derived.Test.YtbckgomidoelaaaBase
namespace Go.Proofs.Ytbckgomidoelaaa
set_option linter.unusedVariables false
set_option linter.unusedSimpArgs false
open Go.RowKit

/-- A letter of the free group with 6 generators. -/
def okL (x : Int) : Bool := decide (x ≠ 0 ∧ x ≤ 6 ∧ -6 ≤ x)
def ffault (w : List Int) : Int := if 60 < w.length then 2 else if w.all okL then 0 else 1
theorem ffault_zero {w : List Int} (h : ffault w = 0) : w.length ≤ 60 ∧ ∀ x ∈ w, x ≠ 0 ∧ x ≤ 6 ∧ -6 ≤ x := by
  unfold ffault at h
  by_cases h1 : 60 < w.length
  · rw [if_pos h1] at h; cases h
  · rw [if_neg h1] at h
    by_cases h2 : w.all okL = true
    · refine ⟨by omega, fun x hx => ?_⟩
      have := List.all_eq_true.1 h2 x hx
      simpa [okL] using this
    · rw [if_neg h2] at h; cases h
theorem ffault_ok {w : List Int} (h1 : w.length ≤ 60) (h2 : ∀ x ∈ w, x ≠ 0 ∧ x ≤ 6 ∧ -6 ≤ x) : ffault w = 0 := by
  unfold ffault
  rw [if_neg (by omega), if_pos]
  exact List.all_eq_true.2 fun x hx => by simpa [okL] using h2 x hx
theorem all_take_succ {w : List Int} {k : Nat} (hk : k < w.length) : (w.take (k + 1)).all okL = ((w.take k).all okL && okL (w.getD k 0)) := by
  rw [List.take_succ_eq_append_getElem hk, List.all_append]
  simp [List.getD, List.getElem?_eq_getElem hk]

set_option maxHeartbeats 1000000 in
theorem free_fault_any (A : Option Addr) (n c : Nat) (xs : List Int) (w : World) (ha : IL w A n xs) :
    Calls Try.prog 10 #[.slice A n c] w fun e w' => e = .returned (.int .i64 (ffault xs)) ∧ w = w' := by
  have hl := ha.len
  have hns := ha.small
  have HA := hide ha
  have HL := hide hl
  by_cases h60 : 60 < n
  · have HF : Hid (ffault xs = 2) := hide (by unfold ffault; rw [if_pos (by omega)])
    clear ha hl
    go_enter Try.func10, Try.ntmps10
    go_wp2
    go_ret
    rw [HF.out]
    exact ⟨rfl, rfl⟩
  · have HF : Hid (ffault xs = if xs.all okL then 0 else 1) := hide (by unfold ffault; rw [if_neg (by omega)])
    clear ha hl
    go_enter Try.func10, Try.ntmps10
    go_wp2
    go_loop [10] (fun iv => ∃ k : Nat, k ≤ n ∧ iv = .int .i64 k ∧ Hid ((xs.take k).all okL = true)) (fun iv => n - (intOf iv).toNat)
    case atStart => exact ⟨0, Nat.zero_le _, rfl, by rw [List.take_zero]; exact rfl⟩
    case round =>
      obtain ⟨k, hk, rfl, HK⟩ := hrel
      by_cases hlt : k < n
      · obtain ⟨ad, rfl, hcl⟩ := HA.out.at_ hlt
        have HT := hide (all_take_succ (w := xs) (k := k) (by rw [HL.out]; exact hlt))
        have HM : Hid (xs.getD k 0 ∈ xs) := hide (by
          have hkl : k < xs.length := by rw [HL.out]; exact hlt
          rw [show xs.getD k 0 = xs[k] by simp [List.getD, List.getElem?_eq_getElem hkl]]
          exact List.getElem_mem _)
        obtain ⟨x, hx⟩ : ∃ x, xs.getD k 0 = x := ⟨_, rfl⟩
        rw [hx] at hcl HT HM
        clear hx
        by_cases hok : x ≠ 0 ∧ x ≤ 6 ∧ -6 ≤ x
        · have HN : Hid ((xs.take (k + 1)).all okL = true) := hide (by rw [HT.out, HK.out]; simp [okL, hok])
          obtain ⟨h0, h1, h2⟩ := hok
          have hb : (x == 0) = false := by simpa using h0
          clear h0
          go_wp2
          go_round
          case rel => exact ⟨k + 1, by omega, by go_num, HN.out⟩
          case measure => simp [intOf]; omega
        · have HN : Hid (xs.all okL = false) := hide (by
            rw [Bool.eq_false_iff]
            intro h
            have := List.all_eq_true.1 h x HM.out
            exact hok (by simpa [okL] using this))
          rw [HN.out] at HF
          by_cases h0 : x = 0
          · subst h0
            clear hok
            go_wp2
            go_ret
            rw [HF.out]
            exact ⟨rfl, rfl⟩
          · have hb : (x == 0) = false := by simpa using h0
            by_cases h1 : x ≤ 6
            · have h2 : x < -6 := by
                rcases Int.lt_or_le x (-6) with h | h
                · exact h
                · exact absurd ⟨h0, h1, h⟩ hok
              clear hok h0
              go_wp2
              go_ret
              rw [HF.out]
              exact ⟨rfl, rfl⟩
            · have h1' : 6 < x := by omega
              clear hok h0 h1
              go_wp2
              go_ret
              rw [HF.out]
              exact ⟨rfl, rfl⟩
      · have HE : Hid (xs.all okL = true) := hide (by
          have := HK.out
          rwa [List.take_of_length_le (by rw [HL.out]; omega)] at this)
        rw [HE.out] at HF
        go_wp2
        go_ret
        rw [HF.out]
        exact ⟨rfl, rfl⟩
end Go.Proofs.Ytbckgomidoelaaa
