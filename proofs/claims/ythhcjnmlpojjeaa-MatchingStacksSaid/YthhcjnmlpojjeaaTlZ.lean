/- timbkeep1.generators. -/
import Derived.Test.YthhcjnmlpojjeaaTlY
import Derived.Deep.DeepCutAuto
namespace Go.Proofs.Ythhcjnmlpojjeaa
set_option linter.unusedVariables false
set_option linter.unusedSimpArgs false
open Go.RowKit

set_option maxRecDepth 100000 in
set_option maxHeartbeats 4000000 in
theorem generators_any (n : Nat) (A : Option Addr) (l c L : Nat) (xs : List Int) (w : World) (hx : IL w A l xs) (hc : l ≤ c) (h2 : 2 ≤ n) (hn : n ≤ 1000) (hL : L ≤ 1000) :
    Calls Try.prog 28 #[.int .i64 n, .slice A l c, .int .i64 L] w fun e w' => ∃ ks B m d, e = .returned (.slice B m d) ∧ SL w' B m d (zs ks) ∧ (∀ k ∈ ks, 1 ≤ k ∧ k < n) ∧ m ≤ L ∧ Below w.heap.size w w' := by
  obtain ⟨i0, hi0, hz0, hz1, hz2⟩ := info_parts int_info
  have HX := hide hx
  have hsm := hx.small
  clear hx
  obtain ⟨K, hK⟩ : ∃ K, K = min l L := ⟨_, rfl⟩
  have hKl : K ≤ l := by omega
  have HP := hide (HX.out.pre hKl)
  have hK10 : K ≤ L := by omega
  obtain ⟨T, hT⟩ : ∃ T, n - 1 = T := ⟨_, rfl⟩
  have hwT : IntKind.i64.wrap ((n : Int) - 1) = (T : Int) := by rw [IntKind.wrap_i64]; omega
  have hT1 : 1 ≤ T := by omega
  have hTn : T < n := by omega
  have hT9 : T ≤ 999 := by omega
  clear hT
  go_enter Try.func28, Try.ntmps28
  go_upto_region 3 with fail
  all_goals
    first | (have e : K = L := by omega) | (have e : K = l := by omega)
    subst e
    clear hK
    go_loopw [7, 17] (fun ov iv wr => ∃ (i c7 : Nat) (A7 : Option Addr), ov = .slice A7 i c7 ∧ iv = .int .i64 i ∧ i ≤ K ∧ Hid (∃ ks, OwnI wr w.heap.size A7 i c7 (zs ks) ∧ ∀ k ∈ ks, 1 ≤ k ∧ k < n) ∧ Hid (Below w.heap.size w wr)) (fun _ iv _ => K - (intOf iv).toNat)
    case atStart => exact ⟨0, 0, none, rfl, rfl, by omega, hide ⟨[], OwnI.nil_ _ _, fun k hk => by cases hk⟩, hide (Below.refl _ _)⟩
    case round =>
      obtain ⟨i, c7, A7, rfl, rfl, hi, HS, HB⟩ := hrel
      obtain ⟨ks, hown, hks⟩ := HS.out
      have HO := hide hown
      have HK := hide hks
      clear hown hks HS
      by_cases hlt : i < K
      · obtain ⟨ad, rfl, hcl⟩ := (HP.out.below HB.out).at_ hlt
        generalize (xs.take K).getD i 0 = x at *
        obtain ⟨p, hp⟩ : ∃ p : Nat, x % (T : Int) = (p : Int) := ⟨(x % (T : Int)).toNat, by have := Int.emod_nonneg x (show (T : Int) ≠ 0 by omega); omega⟩
        have hpT : p < T := by have := Int.emod_lt_of_pos x (show (0 : Int) < T by omega); omega
        have hM := mbelow_any x T wr (by omega) (by omega)
        rw [hp] at hM
        have HM := hide hM
        obtain ⟨q, hq⟩ : ∃ q, 1 + p = q := ⟨_, rfl⟩
        have hwq : IntKind.i64.wrap (1 + (p : Int)) = (q : Int) := by rw [IntKind.wrap_i64]; omega
        have q1 : 1 ≤ q := by omega
        have q2 : q < n := by omega
        clear hp hM hq
        go_wp2_with fail
        refine HM.out.mono ?_
        rintro e w2 ⟨rfl, hww⟩
        subst hww
        go_wp2_with (at_builtin; refine wpList_append_int _ rfl _ _ 22 rfl w.heap.size i0 Try.underlying22 hi0 hz0 hz1 hz2 A7 i c7 _ rfl (HO.out.alloc _) (some ⟨_, 0, none⟩) 1 1 [(q : Int)] rfl (IL.lit _ [(q : Int)] (by simp) rfl rfl) (by omega) (by have := HB.out.size; simp; omega) ?_; intro A8 c8 w8 hap)
        have HN : Hid (∃ ks, OwnI w8 w.heap.size A8 (i + 1) c8 (zs ks) ∧ ∀ k ∈ ks, 1 ≤ k ∧ k < n) := hide ⟨ks ++ [q], by have := hap.own; rwa [show zs (ks ++ [q]) = zs ks ++ [(q : Int)] by simp [zs]], fun k hk => by
          rcases List.mem_append.1 hk with hk | hk
          · exact HK.out k hk
          · rw [List.mem_singleton.1 hk]; exact ⟨q1, q2⟩⟩
        have HB8 := hide ((HB.out.alloc HB.out.size (.cells #[.int .i64 (q : Int)] 3)).grown hap.grown (by have := HB.out.size; simp; omega) (fun j hj => (HO.out.lt j (by rw [ownBlock_len A7 i (i + 1) c7 c7]; exact hj)).1))
        clear hap HM
        go_roundw
        case rel => exact ⟨i + 1, c8, A8, by go_num, by go_num, by omega, HN, HB8⟩
        case measure => simp [intOf]; omega
      · go_wp2
        go_ret
        exact ⟨ks, A7, i, c7, rfl, HO.out.sl, HK.out, by omega, HB.out⟩
end Go.Proofs.Ythhcjnmlpojjeaa
