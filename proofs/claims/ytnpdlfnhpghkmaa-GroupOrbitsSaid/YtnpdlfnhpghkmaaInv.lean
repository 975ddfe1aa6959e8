/- Inverse. -/
import Derived.Test.YtnpdlfnhpghkmaaComp
namespace Go.Proofs.Ytnpdlfnhpghkmaa
set_option linter.unusedVariables false
set_option linter.unusedSimpArgs false
open Go.RowKit

theorem inv_step {a : List Nat} (pa : isP a) {n k : Nat} (hl : a.length = n) (hk : k < n) {ps : List Int} (hp : ps.length = n) (h : ∀ j, j < k → ps.getD (a.getD j 0) 0 = (j : Int)) :
    ∀ j, j < k + 1 → (ps.set (a.getD k 0) (k : Int)).getD (a.getD j 0) 0 = (j : Int) := by
  intro j hj
  have hlk := pa.lt (j := k) (by omega)
  by_cases e : j = k
  · subst e
    simp only [List.getD, List.getElem?_set]
    simp only [List.getD] at hlk
    rw [if_pos trivial, if_pos (by omega)]
    rfl
  · have hne : a.getD k 0 ≠ a.getD j 0 := fun h1 => e (pa.inj (by omega) (by omega) h1).symm
    have := h j (by omega)
    simp only [List.getD, List.getElem?_set] at this hne ⊢
    rw [if_neg hne]
    exact this

set_option maxHeartbeats 1000000 in
theorem inverse_ok (A : Option Addr) (n c : Nat) (a : List Nat) (w : World) (ha : IL w A n (zs a)) (pa : isP a) (h9 : a.length ≤ 9) :
    Calls Try.prog 32 #[.slice A n c] w (GivesOwn0 w (zs (inv a))) := by
  have HA := hide (pa.pf h9)
  have hna := ha.small
  have HL : Hid (a.length = n) := by have := ha.len; rwa [zs_length] at this
  have HP := hide pa
  clear pa h9
  obtain ⟨i0, hi0, hz0, hz1, hz2⟩ := info_parts int_info
  go_enter Try.func32, Try.ntmps32
  go_wp2_with fail
  refine (check_any _ _ _ _ _ ha).mono ?_
  rw [HA.out]
  rintro e w1 ⟨rfl, hb1⟩
  go_wp2_with (at_make; refine wpList_make_full _ rfl _ _ 23 rfl w1.heap.size 3 i0 (.int .i64 0) 1 Try.underlying23 hi0 hz0 hz1 .i64 .i64 _ _ n rfl rfl rfl rfl (by rw [hz2]; omega) (by unfold maxLen; omega) (Nat.le_refl _) ?_; intro w2 hown2 hg2)
  have hB2 : Below w1.heap.size w1 w2 := (Below.refl _ _).grown hg2 (Nat.le_refl _) (by intro k hk; cases hk)
  have hB02 : Below w.heap.size w w2 := hb1.trans (hB2.mono hb1.size)
  have hw2 := OwnI.zero (z := #[]) hown2 (by omega)
  clear hown2 hg2
  go_loopw [18] (fun i wr => ∃ k : Nat, k ≤ n ∧ i = .int .i64 k ∧ (∃ ps : List Int, OwnI wr w1.heap.size (some ⟨w1.heap.size, 0, none⟩) n n ps ∧ Hid (∀ j, j < k → ps.getD (a.getD j 0) 0 = (j : Int))) ∧ Below w.heap.size w wr) (fun i _ => n - (intOf i).toNat)
  case atStart => exact ⟨0, Nat.zero_le _, rfl, ⟨_, hw2, fun j hj => absurd hj (by omega)⟩, hB02⟩
  case round =>
    obtain ⟨k, hk, rfl, ⟨ps, hown, hps⟩, hnx⟩ := hrel
    have ha' := ha.below hnx
    clear ha hw2 hB02 hB2
    by_cases hlt : k < n
    · obtain ⟨ad, rfl, hca⟩ := ha'.at_ hlt
      rw [zs_getD] at hca
      have hx : a.getD k 0 < n := by have := HP.out.lt (j := k) (by have := HL.out; omega); have := HL.out; omega
      have HS := hide (inv_step HP.out HL.out hlt hown.len hps.out)
      have hcell := hown.cell hx
      have hfr := hown.frozen (a.getD k 0)
      have HO := hide (hown.set_ (a.getD k 0) (k : Int))
      clear ha' hown hps
      generalize a.getD k 0 = x at *
      generalize ps.getD x 0 = z at *
      have hsz := hb1.size
      go_wp2
      go_roundw
      case rel => exact ⟨k + 1, by omega, by go_num, ⟨_, HO.out, HS.out⟩, hnx.setCell (by simpa using hsz) _⟩
      case measure => simp [intOf]; omega
    · have HF : Hid (ps = zs (inv a)) := inv_unique HP.out (hown.len.trans HL.out.symm) (fun j hj => hps.out j (by have := HL.out; omega))
      have hsz := hb1.size
      go_wp2
      go_ret2
      rw [HF.out] at hown
      exact ⟨_, _, _, rfl, hown.mono hsz, hnx⟩

set_option maxHeartbeats 1000000 in
theorem inverse_err (A : Option Addr) (n c : Nat) (xs : List Int) (w : World) (ha : IL w A n xs) (hf : pf xs ≠ 0) :
    Calls Try.prog 32 #[.slice A n c] w fun e w' => e = .returned (.tuple #[.slice none 0 0, .int .i64 (pf xs)]) ∧ Below w.heap.size w w' := by
  have h2b : (pf xs != 0) = true := by simpa using hf
  clear hf
  go_enter Try.func32, Try.ntmps32
  go_wp2_with fail
  refine (check_any _ _ _ _ _ ha).mono ?_
  rintro e w1 ⟨rfl, hb1⟩
  go_wp2
  go_ret2
  exact ⟨rfl, hb1⟩
end Go.Proofs.Ytnpdlfnhpghkmaa
