/- Package intmatrix: Det, Smith, Rank. -/
import Derived.Test.YtgjblcfcbohjdaaDoorIm4
import Derived.Test.YtgjblcfcbohjdaaDoorLawMSmiths
namespace Go.Proofs.YtgjblcfcbohjdaaDoor
set_option linter.unusedVariables false
set_option linter.unusedSimpArgs false
open Go.RowKit

theorem mfault_cases (xss : List (List Int)) : mfault xss = 0 ∨ mfault xss = 1 ∨ mfault xss = 2 ∨ mfault xss = 3 := by
  have h : ∀ k (l : List (List Int)), mrows k l = 0 ∨ mrows k l = 1 ∨ mrows k l = 2 ∨ mrows k l = 3 := fun k l => by
    induction l with
    | nil => exact .inl rfl
    | cons r t ih =>
      unfold mrows
      split
      · exact ih
      · unfold mrow; grind
  unfold mfault
  split
  · exact .inr (.inr (.inl rfl))
  · exact h _ _
theorem imcheck_below (A : Option Addr) (n c : Nat) (xss : List (List Int)) (w : World) (ha : SLL w A n c xss) :
    Calls Tryd.prog 13 #[.slice A n c] w fun e w' => e = .returned (.int .i64 (mfault xss)) ∧ Below w.heap.size w w' :=
  (imcheck_any A n c xss w ha.ill).mono fun e w' ⟨h1, h2⟩ => ⟨h1, by rw [← h2]; exact Below.refl _ _⟩
theorem smithL_facL {xss : List (List Int)} (h : mfault xss = 0) : smithL xss = facL (smithS xss.length (colsM xss) (matF xss)) (min xss.length (colsM xss)) := by
  unfold smithL facL
  rw [if_pos h]

set_option maxRecDepth 100000 in
set_option maxHeartbeats 4000000 in
theorem imdet_any (A : Option Addr) (n c : Nat) (xss : List (List Int)) (w : World) (ha : SLL w A n c xss) (hT : TabW w) :
    Calls Tryd.prog 10 #[.slice A n c] w fun e w' => e = .returned (.tuple #[.int .i64 (detV xss), .int .i64 (detE xss)]) ∧ Below w.heap.size w w' := by
  have HCK := hide (imcheck_any A n c xss w ha.ill)
  have hl := ha.len
  have hsm := ha.small
  by_cases hf : mfault xss = 0
  · rw [hf] at HCK
    obtain ⟨hn6, hm6, _, _⟩ := mat_rows hf
    rw [hl] at hn6
    have HCO := hide (columns_any A n c xss w ha)
    by_cases hsq : n = colsM xss
    · have HE : Hid (detE xss = 0) := hide (by unfold detE; rw [if_pos hf, if_neg (by rw [hl]; omega)])
      have HV : Hid (detV xss = mnr (matF xss) (2 ^ n - 1) (2 ^ n - 1)) := hide (by
        unfold detV; rw [if_pos HE.out, hl, mnr_full _ hn6])
      rw [HE.out, HV.out]
      have HMN := hide (minors_any A n c n xss w ha hf hT hsq.symm)
      have hpw := pow_wrap7 n (by omega)
      obtain ⟨hp0, hp64⟩ := pow_pos2 n (by omega)
      have HGD : Hid ((mnrL (matF xss) n (2 ^ n - 1)).getD (2 ^ n - 1) 0 = mnr (matF xss) (2 ^ n - 1) (2 ^ n - 1)) := hide (mnrL_getD _ (by omega))
      rw [← hsq] at HCO
      clear ha hT hf hl HE HV hsq
      generalize 2 ^ n = N at *
      generalize matF xss = F at *
      obtain ⟨y, hy⟩ : ∃ y, mnr F (N - 1) (N - 1) = y := ⟨_, rfl⟩
      rw [hy] at HGD ⊢
      clear hy
      have hne : ((n : Int) != (n : Int)) = false := by simp
      go_enter Tryd.func10, Tryd.ntmps10
      go_wp2_with fail
      refine HCK.out.mono ?_
      rintro e w' ⟨rfl, rfl⟩
      go_wp2_with fail
      refine HCO.out.mono ?_
      rintro e w' ⟨rfl, rfl⟩
      go_wp2_with (simp only [hpw])
      refine HMN.out.mono ?_
      rintro e w2 ⟨g, rfl, htab, hb⟩
      obtain ⟨b, hc, ho⟩ := htab.2 (N - 1) (by omega)
      have hx := ho.cell (show N - 1 < N by omega)
      rw [HGD.out] at hx
      have HB := hide hb
      clear htab hb ho HGD HMN HCK HCO
      obtain ⟨p, rfl⟩ : ∃ p, N = p + 1 := ⟨N - 1, by omega⟩
      rw [Nat.add_sub_cancel] at hx hc
      rw [show ((p + 1 : Nat) : Int) - 1 = (p : Int) by omega]
      go_wp2_with fail
      go_ret2
      exact ⟨rfl, HB.out⟩
    · have HE : Hid (detE xss = 3) := hide (by
        unfold detE
        rw [if_pos hf, if_pos]
        rw [hl]
        refine ⟨?_, fun e => hsq e.symm⟩
        rcases Nat.eq_zero_or_pos n with h0 | h0
        · have hx : xss = [] := List.eq_nil_of_length_eq_zero (by omega)
          subst hx
          exact absurd h0 hsq
        · exact h0)
      have HV : Hid (detV xss = 0) := hide (by unfold detV; rw [if_neg (by rw [HE.out]; decide)])
      rw [HE.out, HV.out]
      have hne : ((n : Int) != (colsM xss : Int)) = true := by simp; omega
      clear ha hT hf hl HE HV
      generalize colsM xss = m at *
      go_enter Tryd.func10, Tryd.ntmps10
      go_wp2_with fail
      refine HCK.out.mono ?_
      rintro e w' ⟨rfl, rfl⟩
      go_wp2_with fail
      refine HCO.out.mono ?_
      rintro e w' ⟨rfl, rfl⟩
      go_wp2_with fail
      go_ret2
      exact ⟨rfl, Below.refl _ _⟩
  · have HE : Hid (detE xss = mfault xss) := hide (by unfold detE; rw [if_neg hf])
    have HV : Hid (detV xss = 0) := hide (by unfold detV; rw [if_neg (by rw [HE.out]; exact hf)])
    rw [HE.out, HV.out]
    have hcs := mfault_cases xss
    generalize mfault xss = E at *
    have hb0 : (E != 0) = true := by simpa using hf
    clear ha hT HE HV
    go_enter Tryd.func10, Tryd.ntmps10
    go_wp2_with fail
    refine HCK.out.mono ?_
    rintro e w' ⟨rfl, rfl⟩
    go_wp2_with fail
    go_ret2
    exact ⟨rfl, Below.refl _ _⟩

set_option maxRecDepth 100000 in
set_option maxHeartbeats 4000000 in
theorem imsmith_any (A : Option Addr) (n c : Nat) (xss : List (List Int)) (w : World) (ha : SLL w A n c xss) (hT : TabW w) :
    Calls Tryd.prog 15 #[.slice A n c] w (GivesLErr w (mfault xss) (smithL xss)) := by
  have HCK := hide (imcheck_any A n c xss w ha.ill)
  have hl := ha.len
  have hsm := ha.small
  by_cases hf : mfault xss = 0
  · have HFA := hide (imfactors_any A n c _ xss w ha hf hT rfl)
    have HS : Hid (smithL xss = facL (smithS n (colsM xss) (matF xss)) (min n (colsM xss))) := hide (by rw [smithL_facL hf, hl])
    rw [HS.out]
    rw [hf] at HCK ⊢
    clear ha hT hf hl HS
    generalize facL (smithS n (colsM xss) (matF xss)) (min n (colsM xss)) = L at *
    generalize min n (colsM xss) = K at *
    go_enter Tryd.func15, Tryd.ntmps15
    go_wp2_with fail
    refine HCK.out.mono ?_
    rintro e w' ⟨rfl, rfl⟩
    go_wp2_with fail
    refine HFA.out.mono ?_
    rintro e w2 ⟨b, rfl, ho, hb, _⟩
    have HO := hide ho.sl
    have HB := hide hb
    clear ho hb HFA HCK
    go_wp2_with fail
    go_ret2
    exact ⟨_, _, _, rfl, HO.out, HB.out⟩
  · have HS : Hid (smithL xss = []) := hide (by unfold smithL; rw [if_neg hf])
    rw [HS.out]
    generalize mfault xss = E at *
    have hb0 : (E != 0) = true := by simpa using hf
    clear ha hT HS
    go_enter Tryd.func15, Tryd.ntmps15
    go_wp2_with fail
    refine HCK.out.mono ?_
    rintro e w' ⟨rfl, rfl⟩
    go_wp2_with fail
    go_ret2
    exact ⟨none, 0, 0, rfl, SL.nil_ _, Below.refl _ _⟩

set_option maxRecDepth 100000 in
set_option maxHeartbeats 4000000 in
theorem imrank_any (A : Option Addr) (n c : Nat) (xss : List (List Int)) (w : World) (ha : SLL w A n c xss) (hT : TabW w) :
    Calls Tryd.prog 16 #[.slice A n c] w fun e w' => e = .returned (.tuple #[.int .i64 (rankV xss), .int .i64 (mfault xss)]) ∧ Below w.heap.size w w' := by
  have HCK := hide (imcheck_any A n c xss w ha.ill)
  have hl := ha.len
  have hsm := ha.small
  by_cases hf : mfault xss = 0
  · have HFA := hide (imfactors_any A n c _ xss w ha hf hT rfl)
    have HS : Hid (smithL xss = facL (smithS n (colsM xss) (matF xss)) (min n (colsM xss))) := hide (by rw [smithL_facL hf, hl])
    have HR : Hid (rankV xss = ((smithL xss).countP fun x => !(x == 0) : Nat)) := rfl
    obtain ⟨hn6, hm6, _, _⟩ := mat_rows hf
    rw [hl] at hn6
    have hK6 : min n (colsM xss) ≤ 6 := by omega
    rw [HR.out, HS.out]
    rw [hf] at HCK ⊢
    clear ha hT hf hl HS HR hn6 hm6
    generalize facL (smithS n (colsM xss) (matF xss)) (min n (colsM xss)) = L at *
    generalize min n (colsM xss) = K at *
    obtain ⟨rk, hrk⟩ : ∃ rk : Nat, L.countP (fun x => !(x == 0)) = rk := ⟨_, rfl⟩
    rw [hrk]
    have HRK := hide hrk
    clear hrk
    go_enter Tryd.func16, Tryd.ntmps16
    go_wp2_with fail
    refine HCK.out.mono ?_
    rintro e w' ⟨rfl, rfl⟩
    go_wp2_with fail
    refine HFA.out.mono ?_
    rintro e w2 ⟨b, rfl, ho, hb, _⟩
    have HO := hide ho
    have HLN := hide ho.len
    have HB := hide hb
    clear ho hb HFA HCK
    go_wp2_with fail
    go_loop [5, 16] (fun sv iv => ∃ k : Nat, k ≤ K ∧ iv = .int .i64 k ∧ sv = .int .i64 (((L.take k).countP fun x => !(x == 0) : Nat) : Int)) (fun _ iv => K - (intOf iv).toNat)
    case atStart => exact ⟨0, Nat.zero_le _, rfl, rfl⟩
    case round =>
      obtain ⟨k, hk, rfl, rfl⟩ := hrel
      have hle : (L.take k).countP (fun x => !(x == 0)) ≤ k := Nat.le_trans List.countP_le_length (List.length_take_le _ _)
      by_cases hlt : k < K
      · have hcl := HO.out.cell hlt
        have HT := hide (cnt_take (xs := L) (k := k) (by rw [HLN.out]; exact hlt))
        generalize (L.take k).countP (fun x => !(x == 0)) = s at *
        obtain ⟨x, hx⟩ : ∃ x, L.getD k 0 = x := ⟨_, rfl⟩
        rw [hx] at hcl HT
        clear hx
        by_cases hz : x = 0
        · have HT2 : Hid ((L.take (k + 1)).countP (fun x => !(x == 0)) = s) := hide (by rw [HT.out, hz]; rfl)
          have hb0 : (x != 0) = false := by simp [hz]
          clear hz HT
          go_wp2_with fail
          go_round
          case rel => exact ⟨k + 1, by omega, by go_num, by rw [HT2.out]⟩
          case measure => simp [intOf]; omega
        · have HT2 : Hid ((L.take (k + 1)).countP (fun x => !(x == 0)) = s + 1) := hide (by rw [HT.out, if_neg (by simpa using hz)])
          have hb0 : (x != 0) = true := by simpa using hz
          clear hz HT
          go_wp2_with fail
          go_round
          case rel => exact ⟨k + 1, by omega, by go_num, by rw [HT2.out]; go_num⟩
          case measure => simp [intOf]; omega
      · have HE : Hid ((L.take k).countP (fun x => !(x == 0)) = rk) := hide (by rw [List.take_of_length_le (by rw [HLN.out]; omega)]; exact HRK.out)
        rw [HE.out] at hle ⊢
        clear HE HRK
        go_wp2_with fail
        go_ret2
        exact ⟨rfl, HB.out⟩
  · have HS : Hid (rankV xss = 0) := hide (by unfold rankV smithL; rw [if_neg hf]; rfl)
    rw [HS.out]
    generalize mfault xss = E at *
    have hb0 : (E != 0) = true := by simpa using hf
    clear ha hT HS
    go_enter Tryd.func16, Tryd.ntmps16
    go_wp2_with fail
    refine HCK.out.mono ?_
    rintro e w' ⟨rfl, rfl⟩
    go_wp2_with fail
    go_ret2
    exact ⟨rfl, Below.refl _ _⟩
end Go.Proofs.YtgjblcfcbohjdaaDoor
