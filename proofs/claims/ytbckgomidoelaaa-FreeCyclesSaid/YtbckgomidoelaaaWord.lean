/- timbmake.Letter, timbmake.Word. -/
import Derived.Test.YtbckgomidoelaaaMperm
import Derived.Test.YtbckgomidoelaaaOpp
import Derived.Deep.DeepCutAuto
namespace Go.Proofs.Ytbckgomidoelaaa
set_option linter.unusedVariables false
set_option linter.unusedSimpArgs false
open Go.RowKit

theorem letter_any (x : Int) (k : Nat) (w : World) (h0 : 0 < k) (hk : k ≤ 1000) :
    Calls Try.prog 37 #[.int .i64 x, .int .i64 k] w fun e w' => ∃ y : Int, e = .returned (.int .i64 y) ∧ y ≠ 0 ∧ -(k : Int) ≤ y ∧ y ≤ k ∧ w = w' := by
  have HM := hide (mbelow_any x (2 * k) w (by omega) (by omega))
  have h1 := Int.emod_nonneg x (show ((2 * k : Nat) : Int) ≠ 0 by omega)
  have h2 := Int.emod_lt_of_pos x (show (0 : Int) < ((2 * k : Nat) : Int) by omega)
  obtain ⟨z, hz⟩ : ∃ z, x % ((2 * k : Nat) : Int) = z := ⟨_, rfl⟩
  rw [hz] at HM h1 h2
  have e2 : ((2 * k : Nat) : Int) = 2 * (k : Int) := by omega
  rw [e2] at HM h2
  clear hz e2
  go_enter Try.func37, Try.ntmps37
  go_wp2_with fail
  refine HM.out.mono ?_
  rintro e w' ⟨rfl, rfl⟩
  by_cases hlt : z < k
  · go_wp2
    go_ret
    exact ⟨z + 1, rfl, by omega, by omega, by omega, rfl⟩
  · go_wp2
    go_ret
    exact ⟨_, rfl, by omega, by omega, by omega, rfl⟩

/-- The letters so far. -/
structure WoSt (w wr : World) (k : Nat) (A : Option Addr) (n c : Nat) (us : List Int) : Prop where
  own : OwnI wr w.heap.size A n c us
  ok : ∀ x ∈ us, x ≠ 0 ∧ x ≤ k ∧ -(k : Int) ≤ x
  below : Below w.heap.size w wr
set_option maxRecDepth 100000 in
set_option maxHeartbeats 2000000 in
theorem word_any (A : Option Addr) (k l c L : Nat) (xs : List Int) (w : World) (hx : IL w A l xs) (hc : l ≤ c) (h0 : 0 < k) (hk : k ≤ 1000) (hL : L ≤ 1000) :
    Calls Try.prog 23 #[.int .i64 k, .slice A l c, .int .i64 L] w fun e w' => ∃ us B m d, e = .returned (.slice B m d) ∧ OwnI w' w.heap.size B m d us ∧ (∀ x ∈ us, x ≠ 0 ∧ x ≤ k ∧ -(k : Int) ≤ x) ∧ m ≤ L ∧ Below w.heap.size w w' := by
  obtain ⟨i0, hi0, hz0, hz1, hz2⟩ := info_parts int_info
  have HX := hide hx
  have hsm := hx.small
  clear hx
  obtain ⟨K, hK⟩ : ∃ K, K = min l L := ⟨_, rfl⟩
  have hKl : K ≤ l := by omega
  have HP := hide (HX.out.pre hKl)
  have hK10 : K ≤ L := by omega
  go_enter Try.func23, Try.ntmps23
  go_upto_region 3 with fail
  all_goals
    first | (have e : K = L := by omega) | (have e : K = l := by omega)
    subst e
    clear hK
    go_loopw [7, 17] (fun ov iv wr => ∃ (i c7 : Nat) (A7 : Option Addr) (us : List Int), ov = .slice A7 i c7 ∧ iv = .int .i64 i ∧ i ≤ K ∧ WoSt w wr k A7 i c7 us) (fun _ iv _ => K - (intOf iv).toNat)
    case atStart => exact ⟨0, 0, none, [], rfl, rfl, by omega, ⟨OwnI.nil_ _ _, fun x hx => by simp at hx, Below.refl _ _⟩⟩
    case round =>
      obtain ⟨i, c7, A7, us, rfl, rfl, hi, hst⟩ := hrel
      by_cases hlt : i < K
      · obtain ⟨ad, rfl, hcl⟩ := (HP.out.below hst.below).at_ hlt
        generalize (xs.take K).getD i 0 = x at *
        go_wp2_with fail
        refine (letter_any x k wr h0 hk).mono ?_
        rintro e w2 ⟨y, rfl, hy0, hy1, hy2, rfl⟩
        have HST := hide hst
        have hs := hst.below.size
        clear hst hcl
        go_wp2_with (at_builtin; refine wpList_append_int _ rfl _ _ 22 rfl w.heap.size i0 Try.underlying22 hi0 hz0 hz1 hz2 A7 i c7 us rfl (HST.out.own.alloc _) (some ⟨_, 0, none⟩) 1 1 [y] rfl (IL.lit _ [y] (by simp) rfl rfl) (by omega) (by simp; omega) ?_; intro A8 c8 w8 hap)
        have hN : WoSt w w8 k A8 (i + 1) c8 (us ++ [y]) := by
          refine ⟨hap.own, fun z hz => ?_, (HST.out.below.alloc hs _).grown hap.grown (by simp; omega) (fun j hj => (HST.out.own.lt j (by rw [ownBlock_len A7 i (i + 1) c7 c7]; exact hj)).1)⟩
          rcases List.mem_append.1 hz with hz | hz
          · exact HST.out.ok z hz
          · obtain rfl : z = y := by simpa using hz
            exact ⟨hy0, hy2, hy1⟩
        clear hap
        go_roundw
        case rel => exact ⟨i + 1, c8, A8, _, by go_num, by go_num, by omega, hN⟩
        case measure => simp [intOf]; omega
      · go_wp2
        go_ret
        exact ⟨us, A7, i, c7, rfl, hst.own, hst.ok, by omega, hst.below⟩
end Go.Proofs.Ytbckgomidoelaaa
