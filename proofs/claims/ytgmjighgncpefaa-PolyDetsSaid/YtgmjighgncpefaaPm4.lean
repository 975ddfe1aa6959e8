/- Package polymatrix: poly. -/
import Derived.Test.YtgmjighgncpefaaPmM
import Derived.Test.YtgmjighgncpefaaBase
namespace Go.Proofs.Ytgmjighgncpefaa
set_option linter.unusedVariables false
set_option linter.unusedSimpArgs false
open Go.RowKit

set_option maxRecDepth 100000 in
set_option maxHeartbeats 2000000 in
theorem pmIndex_any {fid : FuncId} {caps : List Value} (f : Int → Bool) (hfid : ∀ args w, (callFunc fid args).run Try.prog w = .ok (.enter fid args) w) (A : Option Addr) (n c : Nat) (xs : List Int) (w : World) (ha : IL w A n xs)
    (hf : ∀ x w, Calls Try.prog fid (.int .i64 x :: caps).toArray w fun e w' => e = .returned (.bool (f x)) ∧ w = w') :
    Calls Try.prog 37 #[.slice A n c, .func (.func fid) #[] caps.toArray] w fun e w' => ((e = .returned (.int .i64 (-1)) ∧ ∀ j, j < n → f (xs.getD j 0) = false) ∨ ∃ k : Nat, e = .returned (.int .i64 k) ∧ k < n ∧ f (xs.getD k 0) = true ∧ ∀ j, j < k → f (xs.getD j 0) = false) ∧ w = w' := by
  have hs := ha.small
  have HA := hide ha
  have HF := hide hf
  clear ha hf
  go_enter Try.func37, Try.ntmps37
  go_wp2
  go_loop [8] (fun i => ∃ k : Nat, k ≤ n ∧ i = .int .i64 k ∧ Hid (∀ j, j < k → f (xs.getD j 0) = false)) (fun i => n - (intOf i).toNat)
  case atStart => exact ⟨0, Nat.zero_le _, rfl, hide (fun j hj => absurd hj (by omega))⟩
  case round =>
    obtain ⟨k, hk, rfl, HN⟩ := hrel
    by_cases hlt : k < n
    · obtain ⟨ad, rfl, hc⟩ := HA.out.at_ hlt
      have HC := hide (HF.out (xs.getD k 0) w)
      by_cases hfk : f (xs.getD k 0) = true
      · have HY := hide hfk
        rw [hfk] at HC
        clear hfk
        go_wp2_with fail
        refine HC.out.mono ?_
        rintro e w1 ⟨rfl, rfl⟩
        go_wp2_with fail
        go_ret
        exact ⟨.inr ⟨k, rfl, hlt, HY.out, HN.out⟩, rfl⟩
      · have hfk' : f (xs.getD k 0) = false := by simpa using hfk
        have HN2 : Hid (∀ j, j < k + 1 → f (xs.getD j 0) = false) := hide (fun j hj => by
          by_cases e : j = k
          · rw [e]; exact hfk'
          · exact HN.out j (by omega))
        rw [hfk'] at HC
        clear hfk hfk'
        go_wp2_with fail
        refine HC.out.mono ?_
        rintro e w1 ⟨rfl, rfl⟩
        go_wp2_with fail
        go_round
        case rel => exact ⟨k + 1, by omega, by go_num, HN2⟩
        case measure => simp [intOf]; omega
    · go_wp2_with fail
      go_ret
      exact ⟨.inl ⟨rfl, fun j hj => HN.out j (by omega)⟩, rfl⟩
set_option maxHeartbeats 1000000 in
theorem pmClone_any (A : Option Addr) (n c : Nat) (xs : List Int) (w : World) (ha : IL w A n xs) (hc : A = none → n = 0 ∧ c = 0) :
    Calls Try.prog 38 #[.slice A n c] w (GivesOwn w xs) := by
  obtain ⟨i0, hi0, hz0, hz1, hz2⟩ := info_parts int_info
  rcases A with _ | ad
  · obtain ⟨rfl, rfl⟩ := hc rfl
    have hx : xs = [] := List.eq_nil_of_length_eq_zero ha.len
    subst hx
    have hnil := fun (W : World) => Lib.run_eql_slice_nil (P := Try.prog) W 48 3 none 0 0 0 0 Try.underlying48
    go_enter Try.func38, Try.ntmps38
    go_wp2
    go_ret
    exact ⟨none, 0, 0, rfl, OwnI.nil_ _ _, Below.refl _ _⟩
  · have hnil := fun (W : World) => Lib.run_eql_slice_nil (P := Try.prog) W 48 3 (some ad) n c 0 0 Try.underlying48
    have hsm := ha.small
    have hl0 : OwnI (w.alloc (.cells #[] 3)) w.heap.size (some ⟨w.heap.size, 0, none⟩) 0 0 [] := OwnI.lit w [] (Nat.le_refl _) (by simp) rfl rfl rfl
    have ha1 := ha.alloc (.cells #[] 3)
    have hb1 : Below w.heap.size w (w.alloc (.cells #[] 3)) := (Below.refl _ _).alloc (Nat.le_refl _) _
    go_enter Try.func38, Try.ntmps38
    go_wp2_with (at_builtin; refine wpList_append_int _ rfl (.tmp 5) (.tmp 6) 48 rfl w.heap.size i0 Try.underlying48 hi0 hz0 hz1 hz2 (some ⟨w.heap.size, 0, none⟩) 0 0 [] rfl hl0 (some ad) n c xs rfl ha1 (by omega) (by simp) ?_; intro A9 c9 w9 happ)
    go_ret
    have ho := happ.own
    rw [List.nil_append] at ho
    rw [Nat.zero_add] at ho
    refine ⟨_, _, _, rfl, ho, hb1.grown happ.grown (by simp) (fun g hg => by simp [Value.ownBlock] at hg; omega)⟩


/-- poly's closure: is there a term? -/
theorem isTerm_any (x : Int) (w : World) : Calls Try.prog 36 (.int .i64 x :: []).toArray w fun e w' => e = .returned (.bool (x != 0)) ∧ w = w' := by
  go_enter Try.func36, Try.ntmps36
  go_wp2_with fail
  go_ret
  exact ⟨rfl, rfl⟩
theorem eIsTerm : ∀ args w, (callFunc 36 args).run Try.prog w = .ok (.enter 36 args) w := enters (fn := Try.f36) (by kernel_rfl) (by kernel_rfl) (by kernel_rfl)

set_option maxRecDepth 100000 in
set_option maxHeartbeats 4000000 in
theorem pmPoly_any (A : Option Addr) (n c : Nat) (ys : List Int) (k : Nat) (w : World) (ha : SL w A n c ys) (hn : n = 59 * k + 1) (hk : k ≤ 4) :
    Calls Try.prog 21 #[.slice A n c] w (GivesP w (LP.canon (LP.of (-20 * (k : Int)) ys)).1 (LP.canon (LP.of (-20 * (k : Int)) ys)).2) := by
  have HL : Hid (ys.length = n) := hide ha.il.len
  have HCAN : Hid (∀ l cs, LP.Cano l cs → LP.of l cs = LP.of (-20 * (k : Int)) ys → LP.canon (LP.of (-20 * (k : Int)) ys) = (l, cs)) := hide (fun lo cs h1 h2 => LP.canon_eq h1 h2)
  have HTR : Hid (∀ {i m : Nat}, i + m ≤ ys.length → (∀ j, j < i → ys.getD j 0 = 0) → (∀ j, i + m ≤ j → j < ys.length → ys.getD j 0 = 0) → LP.of (-20 * (k : Int) + i) ((ys.drop i).take m) = LP.of (-20 * (k : Int)) ys) := hide (fun h1 h2 h3 => LP.of_trim _ h1 h2 h3)
  have HZR : Hid ((∀ j, j < ys.length → ys.getD j 0 = 0) → LP.of 0 [] = LP.of (-20 * (k : Int)) ys) := hide (fun h => (LP.of_zeros _ h))
  have HW0 : Hid (Below w.heap.size w (w.alloc (.cells #[.int .i64 0, .slice none 0 0] 25))) := hide ((Below.refl _ _).alloc (Nat.le_refl _) _)
  have HBK : Hid (Blk (w.alloc (.cells #[.int .i64 0, .slice none 0 0] 25)) w.heap.size 25 #[.int .i64 0, .slice none 0 0]) := hide (Blk.new _ _ _)
  have HSL := hide (ha.below HW0.out)
  have HIN := hide ha.inside
  have HNIL := hide ha.nil
  have hcap := ha.cap
  have hqn : (n : Int).tdiv 59 = (k : Int) := by
    rw [hn, Int.tdiv_eq_ediv_of_nonneg (by omega)]
    omega
  have hns : n ≤ 1000 := by omega
  obtain ⟨i0, hi0, hz0, hz1, hz2⟩ := info_parts int_info
  have HI0 := hide hi0
  have HZ1 := hide hz1
  have HQ : Hid (IntKind.i64.wrap ((n : Int).tdiv 59) = (k : Int)) := hide (by rw [hqn, IntKind.wrap_i64]; omega)
  have HNE := hide hn
  clear ha hi0 hz0 hz1 hz2 hqn hn
  generalize LP.canon (LP.of (-20 * (k : Int)) ys) = P at *
  go_enter Try.func21, Try.ntmps21
  go_upto_region 1 with fail
  obtain ⟨w0, hw0⟩ : ∃ x, w.alloc (.cells #[.int .i64 0, .slice none 0 0] 25) = x := ⟨_, rfl⟩
  rw [hw0] at HW0 HBK HSL ⊢
  clear hw0
  have hbw := HBK.out.lt
  go_wp2_with fail
  refine (pmIndex_any (fid := 36) (caps := []) (fun x => x != 0) eIsTerm A n c ys _ HSL.out.il isTerm_any).mono ?_
  rintro e w1 ⟨h, rfl⟩
  rcases h with ⟨rfl, hz⟩ | ⟨i, rfl, hin, hfi, hzb⟩
  · have HP : Hid (P = (0, [])) := hide (HCAN.out 0 [] (.inl ⟨rfl, rfl⟩) (HZR.out (fun j hj => by
      have := hz j (by rw [← HL.out]; exact hj)
      simpa using this)))
    have hf0 := HBK.out.frozen 0
    have hf1 := HBK.out.frozen 1
    have hc0 := HBK.out.cell 0
    have hc1 := HBK.out.cell 1
    simp at hc0 hc1
    clear hz
    go_wp2_with fail
    refine bodyPost_ret (results_poly rfl _ rfl ((HBK.out.set_ 0 (.int .i64 0)).set_ 1 (.slice none 0 0))) rfl ?_
    rw [HP.out]
    exact ⟨none, 0, 0, rfl, SL.nil_ _, fun h => absurd h (by omega), (HW0.out.setCell (p := ⟨w.heap.size, 0, none⟩) (Nat.le_refl _) _).setCell (p := ⟨w.heap.size, 1, none⟩) (Nat.le_refl _) _⟩
  · have HFI : Hid (ys.getD i 0 ≠ 0) := hide (by simpa using hfi)
    have HZB : Hid (∀ j, j < i → ys.getD j 0 = 0) := hide (fun j hj => by simpa using hzb j hj)
    clear hfi hzb
    go_wp2_with fail
    go_loop [5] (fun cv => ∃ E : Nat, cv = .int .i64 E ∧ i < E ∧ E ≤ n ∧ Hid (∀ j, E ≤ j → j < n → ys.getD j 0 = 0)) (fun cv => (intOf cv).toNat)
    case atStart => exact ⟨n, rfl, hin, Nat.le_refl _, hide (fun j h1 h2 => absurd h2 (by omega))⟩
    case round =>
      obtain ⟨E, rfl, hiE, hEn, HZT⟩ := hrel
      obtain ⟨ad, hA, hcl⟩ := HSL.out.il.at_ (k := E - 1) (by omega)
      subst hA
      obtain ⟨y, hy⟩ : ∃ y, ys.getD (E - 1) 0 = y := ⟨_, rfl⟩
      rw [hy] at hcl
      have HY := hide hy
      have hp2 : ((E : Int) - 1).toNat = E - 1 := by omega
      clear hy
      by_cases hy0 : y = 0
      · have hye : (y == 0) = true := by simp [hy0]
        have hiE2 : i < E - 1 := by
          by_cases h : E - 1 = i
          · exfalso
            have := HY.out
            rw [h] at this
            exact HFI.out (this.trans hy0)
          · omega
        have HZT2 : Hid (∀ j, E - 1 ≤ j → j < n → ys.getD j 0 = 0) := hide (fun j h1 h2 => by
          by_cases e : j = E - 1
          · subst e; rw [HY.out]; exact hy0
          · exact HZT.out j (by omega) h2)
        clear hy0 HY
        go_wp2_with fail
        go_round
        case rel => exact ⟨E - 1, by go_num, hiE2, by omega, HZT2⟩
        case measure => simp [intOf]; omega
      · have hye : (y == 0) = false := by simpa using hy0
        have HP : Hid (P = (-20 * (k : Int) + i, (ys.drop i).take (E - i))) := hide (HCAN.out _ _ (.inr ⟨fun e => by
          have h1 := congrArg List.length e
          simp at h1
          have := HL.out
          omega, by
          rw [show ((ys.drop i).take (E - i)).getD 0 0 = ys.getD i 0 by simp [List.getD, List.getElem?_take, List.getElem?_drop, show 0 < E - i by omega]]
          exact HFI.out, by
          have h1 : ((ys.drop i).take (E - i)).length = E - i := by simp; have := HL.out; omega
          rw [h1]
          rw [show ((ys.drop i).take (E - i)).getD (E - i - 1) 0 = ys.getD (E - 1) 0 by simp [List.getD, List.getElem?_take, List.getElem?_drop, show E - i - 1 < E - i by omega, show i + (E - i - 1) = E - 1 by omega], HY.out]
          exact hy0⟩) (HTR.out (by rw [HL.out]; omega) HZB.out (fun j h1 h2 => HZT.out j (by omega) (by rw [HL.out] at h2; exact h2))))
        have HCU := hide (HSL.out.il.cut (l := i) (h := E) (by omega) hEn hcap)
        have HCN : Hid (cutA (some ad) i c = none → E - i = 0 ∧ c - i = 0) := hide (fun e => cutA_none HNIL.out (by omega) hEn e)
        have HIE := hide hiE
        have hEc : E ≤ c := by omega
        clear hy0 HY HZT
        rw [show -20 * (k : Int) + i = (i : Int) - (k : Int) * 20 by omega] at HP
        go_upto_region 8 with fail
        go_upto_region 9 with ((with_reducible show wpList _ _ _ (Oper.mk _ (.binOp .quo _ _ _ _) _ _ _ _ :: _) _ _); refine wpList_gives rfl (gives_quo rfl rfl rfl (by decide) HQ.out) ?_)
        have hEi : i ≤ E := Nat.le_of_lt HIE.out
        go_wp2_with ((with_reducible show wpList _ _ _ (Oper.mk _ (.slice 48 _ _ _ _) _ _ _ _ :: _) _ _); refine wpList_gives rfl (v := .slice (cutA (some ad) i c) (E - i) (c - i)) (gives_cut_lh rfl Try.underlying48 (by rw [HI0.out]; exact congrArg some HZ1.out) rfl rfl rfl hEi hEc) ?_)
        refine (pmClone_any (cutA (some ad) i c) (E - i) (c - i) _ _ HCU.out HCN.out).mono ?_
        rintro e w2 ⟨R, rn, rc, rfl, hown, hb2⟩
        have hnw : 0 < rn → ∀ a, R = some a → w0.heap.size ≤ a.block := fun h a e => by
          rcases hown.own.2 with ⟨_, h0⟩ | ⟨g', cap, cur, hv, hg', _⟩
          · omega
          · injection hv with hv
            rw [e] at hv
            injection hv with hv
            rw [hv]
            exact hg'
        have HSL2 := hide hown.sl
        have HBK2 := hide (HBK.out.below hb2 hbw)
        have HW2 := hide (HW0.out.trans (hb2.mono HW0.out.size))
        have hf0 := HBK2.out.frozen 0
        have hf1 := HBK2.out.frozen 1
        have hc0 := HBK2.out.cell 0
        have hc1 := HBK2.out.cell 1
        simp at hc0 hc1
        have hlt2 := HBK2.out.lt
        have HNW := hide hnw
        clear hnw hown hb2 HCU HCN
        go_wp2_with fail
        refine bodyPost_ret (results_poly rfl _ rfl ((HBK2.out.set_ 0 (.int .i64 ((i : Int) - (k : Int) * 20))).set_ 1 (.slice R rn rc))) rfl ?_
        rw [HP.out]
        have hfar : 0 < rn → ∀ a, R = some a → a.block ≠ w.heap.size := fun h a e => by have := HNW.out h a e; omega
        exact ⟨R, rn, rc, rfl, (HSL2.out.setCell hfar 0 _).setCell hfar 1 _, fun h a e => by have := HNW.out h a e; omega, (HW2.out.setCell (p := ⟨w.heap.size, 0, none⟩) (Nat.le_refl _) _).setCell (p := ⟨w.heap.size, 1, none⟩) (Nat.le_refl _) _⟩
end Go.Proofs.Ytgmjighgncpefaa
