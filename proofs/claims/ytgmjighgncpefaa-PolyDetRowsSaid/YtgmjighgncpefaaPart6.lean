/- Several texts of the walk in one. -/
import Derived.Test.YtgmjighgncpefaaPart4
import Derived.Test.YtgmjighgncpefaaBase
import Derived.Test.YtgmjighgncpefaaPart1
import Derived.Test.YtgmjighgncpefaaPart5
import Derived.Test.YtgmjighgncpefaaPart3
import Derived.Laws.EntriesVeiled
/- Package polymatrix: poly. -/
namespace Go.Proofs.Ytgmjighgncpefaa
set_option linter.unusedVariables false
set_option linter.unusedSimpArgs false
open Go.RowKit

set_option maxRecDepth 100000 in
set_option maxHeartbeats 2000000 in
theorem pmIndex_any {fid : FuncId} {caps : List Value} (f : Int → Bool) (hfid : ∀ args w, (callFunc fid args).run Try.prog w = .ok (.enter fid args) w) (A : Option Addr) (n c : Nat) (xs : List Int) (w : World) (ha : IL w A n xs)
    (hf : ∀ x w, Calls Try.prog fid (.int .i64 x :: caps).toArray w fun e w' => e = .returned (.bool (f x)) ∧ w = w') :
    Calls Try.prog 37 #[.slice A n c, .func (.func fid) #[] caps.toArray] w fun e w' => ((e = .returned (.int .i64 (-1)) ∧ ∀ j, j < n → f (xs.getD j 0) = false) ∨ ∃ k : Nat, e = .returned (.int .i64 k) ∧ k < n ∧ f (xs.getD k 0) = true ∧ ∀ j, j < k → f (xs.getD j 0) = false) ∧ w = w' := by
  have hs := ha.small
  have HA := hide ha
  have HF := hide hf
  clear ha hf
  go_enter Try.func37, Try.ntmps37
  go_wp2
  go_loop [8] (fun i => ∃ k : Nat, k ≤ n ∧ i = .int .i64 k ∧ Hid (∀ j, j < k → f (xs.getD j 0) = false)) (fun i => n - (intOf i).toNat)
  case atStart => exact ⟨0, Nat.zero_le _, rfl, hide (fun j hj => absurd hj (by omega))⟩
  case round =>
    obtain ⟨k, hk, rfl, HN⟩ := hrel
    by_cases hlt : k < n
    · obtain ⟨ad, rfl, hc⟩ := HA.out.at_ hlt
      have HC := hide (HF.out (xs.getD k 0) w)
      by_cases hfk : f (xs.getD k 0) = true
      · have HY := hide hfk
        rw [hfk] at HC
        clear hfk
        go_wp2_with fail
        refine HC.out.mono ?_
        rintro e w1 ⟨rfl, rfl⟩
        go_wp2_with fail
        go_ret
        exact ⟨.inr ⟨k, rfl, hlt, HY.out, HN.out⟩, rfl⟩
      · have hfk' : f (xs.getD k 0) = false := by simpa using hfk
        have HN2 : Hid (∀ j, j < k + 1 → f (xs.getD j 0) = false) := hide (fun j hj => by
          by_cases e : j = k
          · rw [e]; exact hfk'
          · exact HN.out j (by omega))
        rw [hfk'] at HC
        clear hfk hfk'
        go_wp2_with fail
        refine HC.out.mono ?_
        rintro e w1 ⟨rfl, rfl⟩
        go_wp2_with fail
        go_round
        case rel => exact ⟨k + 1, by omega, by go_num, HN2⟩
        case measure => simp [intOf]; omega
    · go_wp2_with fail
      go_ret
      exact ⟨.inl ⟨rfl, fun j hj => HN.out j (by omega)⟩, rfl⟩
set_option maxHeartbeats 1000000 in
theorem pmClone_any (A : Option Addr) (n c : Nat) (xs : List Int) (w : World) (ha : IL w A n xs) (hc : A = none → n = 0 ∧ c = 0) :
    Calls Try.prog 38 #[.slice A n c] w (GivesOwn w xs) := by
  obtain ⟨i0, hi0, hz0, hz1, hz2⟩ := info_parts int_info
  rcases A with _ | ad
  · obtain ⟨rfl, rfl⟩ := hc rfl
    have hx : xs = [] := List.eq_nil_of_length_eq_zero ha.len
    subst hx
    have hnil := fun (W : World) => Lib.run_eql_slice_nil (P := Try.prog) W 48 3 none 0 0 0 0 Try.underlying48
    go_enter Try.func38, Try.ntmps38
    go_wp2
    go_ret
    exact ⟨none, 0, 0, rfl, OwnI.nil_ _ _, Below.refl _ _⟩
  · have hnil := fun (W : World) => Lib.run_eql_slice_nil (P := Try.prog) W 48 3 (some ad) n c 0 0 Try.underlying48
    have hsm := ha.small
    have hl0 : OwnI (w.alloc (.cells #[] 3)) w.heap.size (some ⟨w.heap.size, 0, none⟩) 0 0 [] := OwnI.lit w [] (Nat.le_refl _) (by simp) rfl rfl rfl
    have ha1 := ha.alloc (.cells #[] 3)
    have hb1 : Below w.heap.size w (w.alloc (.cells #[] 3)) := (Below.refl _ _).alloc (Nat.le_refl _) _
    go_enter Try.func38, Try.ntmps38
    go_wp2_with (at_builtin; refine wpList_append_int _ rfl (.tmp 5) (.tmp 6) 48 rfl w.heap.size i0 Try.underlying48 hi0 hz0 hz1 hz2 (some ⟨w.heap.size, 0, none⟩) 0 0 [] rfl hl0 (some ad) n c xs rfl ha1 (by omega) (by simp) ?_; intro A9 c9 w9 happ)
    go_ret
    have ho := happ.own
    rw [List.nil_append] at ho
    rw [Nat.zero_add] at ho
    refine ⟨_, _, _, rfl, ho, hb1.grown happ.grown (by simp) (fun g hg => by simp [Value.ownBlock] at hg; omega)⟩


/-- poly's closure: is there a term? -/
theorem isTerm_any (x : Int) (w : World) : Calls Try.prog 36 (.int .i64 x :: []).toArray w fun e w' => e = .returned (.bool (x != 0)) ∧ w = w' := by
  go_enter Try.func36, Try.ntmps36
  go_wp2_with fail
  go_ret
  exact ⟨rfl, rfl⟩
theorem eIsTerm : ∀ args w, (callFunc 36 args).run Try.prog w = .ok (.enter 36 args) w := enters (fn := Try.f36) (by kernel_rfl) (by kernel_rfl) (by kernel_rfl)

set_option maxRecDepth 100000 in
set_option maxHeartbeats 4000000 in
theorem pmPoly_any (A : Option Addr) (n c : Nat) (ys : List Int) (k : Nat) (w : World) (ha : SL w A n c ys) (hn : n = 59 * k + 1) (hk : k ≤ 4) :
    Calls Try.prog 21 #[.slice A n c] w (GivesP w (LP.canon (LP.of (-20 * (k : Int)) ys)).1 (LP.canon (LP.of (-20 * (k : Int)) ys)).2) := by
  have HL : Hid (ys.length = n) := hide ha.il.len
  have HCAN : Hid (∀ l cs, LP.Cano l cs → LP.of l cs = LP.of (-20 * (k : Int)) ys → LP.canon (LP.of (-20 * (k : Int)) ys) = (l, cs)) := hide (fun lo cs h1 h2 => LP.canon_eq h1 h2)
  have HTR : Hid (∀ {i m : Nat}, i + m ≤ ys.length → (∀ j, j < i → ys.getD j 0 = 0) → (∀ j, i + m ≤ j → j < ys.length → ys.getD j 0 = 0) → LP.of (-20 * (k : Int) + i) ((ys.drop i).take m) = LP.of (-20 * (k : Int)) ys) := hide (fun h1 h2 h3 => LP.of_trim _ h1 h2 h3)
  have HZR : Hid ((∀ j, j < ys.length → ys.getD j 0 = 0) → LP.of 0 [] = LP.of (-20 * (k : Int)) ys) := hide (fun h => (LP.of_zeros _ h))
  have HW0 : Hid (Below w.heap.size w (w.alloc (.cells #[.int .i64 0, .slice none 0 0] 25))) := hide ((Below.refl _ _).alloc (Nat.le_refl _) _)
  have HBK : Hid (Blk (w.alloc (.cells #[.int .i64 0, .slice none 0 0] 25)) w.heap.size 25 #[.int .i64 0, .slice none 0 0]) := hide (Blk.new _ _ _)
  have HSL := hide (ha.below HW0.out)
  have HIN := hide ha.inside
  have HNIL := hide ha.nil
  have hcap := ha.cap
  have hqn : (n : Int).tdiv 59 = (k : Int) := by
    rw [hn, Int.tdiv_eq_ediv_of_nonneg (by omega)]
    omega
  have hns : n ≤ 1000 := by omega
  obtain ⟨i0, hi0, hz0, hz1, hz2⟩ := info_parts int_info
  have HI0 := hide hi0
  have HZ1 := hide hz1
  have HQ : Hid (IntKind.i64.wrap ((n : Int).tdiv 59) = (k : Int)) := hide (by rw [hqn, IntKind.wrap_i64]; omega)
  have HNE := hide hn
  clear ha hi0 hz0 hz1 hz2 hqn hn
  generalize LP.canon (LP.of (-20 * (k : Int)) ys) = P at *
  go_enter Try.func21, Try.ntmps21
  go_upto_region 1 with fail
  obtain ⟨w0, hw0⟩ : ∃ x, w.alloc (.cells #[.int .i64 0, .slice none 0 0] 25) = x := ⟨_, rfl⟩
  rw [hw0] at HW0 HBK HSL ⊢
  clear hw0
  have hbw := HBK.out.lt
  go_wp2_with fail
  refine (pmIndex_any (fid := 36) (caps := []) (fun x => x != 0) eIsTerm A n c ys _ HSL.out.il isTerm_any).mono ?_
  rintro e w1 ⟨h, rfl⟩
  rcases h with ⟨rfl, hz⟩ | ⟨i, rfl, hin, hfi, hzb⟩
  · have HP : Hid (P = (0, [])) := hide (HCAN.out 0 [] (.inl ⟨rfl, rfl⟩) (HZR.out (fun j hj => by
      have := hz j (by rw [← HL.out]; exact hj)
      simpa using this)))
    have hf0 := HBK.out.frozen 0
    have hf1 := HBK.out.frozen 1
    have hc0 := HBK.out.cell 0
    have hc1 := HBK.out.cell 1
    simp at hc0 hc1
    clear hz
    go_wp2_with fail
    refine bodyPost_ret (results_poly rfl _ rfl ((HBK.out.set_ 0 (.int .i64 0)).set_ 1 (.slice none 0 0))) rfl ?_
    rw [HP.out]
    exact ⟨none, 0, 0, rfl, SL.nil_ _, fun h => absurd h (by omega), (HW0.out.setCell (p := ⟨w.heap.size, 0, none⟩) (Nat.le_refl _) _).setCell (p := ⟨w.heap.size, 1, none⟩) (Nat.le_refl _) _⟩
  · have HFI : Hid (ys.getD i 0 ≠ 0) := hide (by simpa using hfi)
    have HZB : Hid (∀ j, j < i → ys.getD j 0 = 0) := hide (fun j hj => by simpa using hzb j hj)
    clear hfi hzb
    go_wp2_with fail
    go_loop [5] (fun cv => ∃ E : Nat, cv = .int .i64 E ∧ i < E ∧ E ≤ n ∧ Hid (∀ j, E ≤ j → j < n → ys.getD j 0 = 0)) (fun cv => (intOf cv).toNat)
    case atStart => exact ⟨n, rfl, hin, Nat.le_refl _, hide (fun j h1 h2 => absurd h2 (by omega))⟩
    case round =>
      obtain ⟨E, rfl, hiE, hEn, HZT⟩ := hrel
      obtain ⟨ad, hA, hcl⟩ := HSL.out.il.at_ (k := E - 1) (by omega)
      subst hA
      obtain ⟨y, hy⟩ : ∃ y, ys.getD (E - 1) 0 = y := ⟨_, rfl⟩
      rw [hy] at hcl
      have HY := hide hy
      have hp2 : ((E : Int) - 1).toNat = E - 1 := by omega
      clear hy
      by_cases hy0 : y = 0
      · have hye : (y == 0) = true := by simp [hy0]
        have hiE2 : i < E - 1 := by
          by_cases h : E - 1 = i
          · exfalso
            have := HY.out
            rw [h] at this
            exact HFI.out (this.trans hy0)
          · omega
        have HZT2 : Hid (∀ j, E - 1 ≤ j → j < n → ys.getD j 0 = 0) := hide (fun j h1 h2 => by
          by_cases e : j = E - 1
          · subst e; rw [HY.out]; exact hy0
          · exact HZT.out j (by omega) h2)
        clear hy0 HY
        go_wp2_with fail
        go_round
        case rel => exact ⟨E - 1, by go_num, hiE2, by omega, HZT2⟩
        case measure => simp [intOf]; omega
      · have hye : (y == 0) = false := by simpa using hy0
        have HP : Hid (P = (-20 * (k : Int) + i, (ys.drop i).take (E - i))) := hide (HCAN.out _ _ (.inr ⟨fun e => by
          have h1 := congrArg List.length e
          simp at h1
          have := HL.out
          omega, by
          rw [show ((ys.drop i).take (E - i)).getD 0 0 = ys.getD i 0 by simp [List.getD, List.getElem?_take, List.getElem?_drop, show 0 < E - i by omega]]
          exact HFI.out, by
          have h1 : ((ys.drop i).take (E - i)).length = E - i := by simp; have := HL.out; omega
          rw [h1]
          rw [show ((ys.drop i).take (E - i)).getD (E - i - 1) 0 = ys.getD (E - 1) 0 by simp [List.getD, List.getElem?_take, List.getElem?_drop, show E - i - 1 < E - i by omega, show i + (E - i - 1) = E - 1 by omega], HY.out]
          exact hy0⟩) (HTR.out (by rw [HL.out]; omega) HZB.out (fun j h1 h2 => HZT.out j (by omega) (by rw [HL.out] at h2; exact h2))))
        have HCU := hide (HSL.out.il.cut (l := i) (h := E) (by omega) hEn hcap)
        have HCN : Hid (cutA (some ad) i c = none → E - i = 0 ∧ c - i = 0) := hide (fun e => cutA_none HNIL.out (by omega) hEn e)
        have HIE := hide hiE
        have hEc : E ≤ c := by omega
        clear hy0 HY HZT
        rw [show -20 * (k : Int) + i = (i : Int) - (k : Int) * 20 by omega] at HP
        go_upto_region 8 with fail
        go_upto_region 9 with ((with_reducible show wpList _ _ _ (Oper.mk _ (.binOp .quo _ _ _ _) _ _ _ _ :: _) _ _); refine wpList_gives rfl (gives_quo rfl rfl rfl (by decide) HQ.out) ?_)
        have hEi : i ≤ E := Nat.le_of_lt HIE.out
        go_wp2_with ((with_reducible show wpList _ _ _ (Oper.mk _ (.slice 48 _ _ _ _) _ _ _ _ :: _) _ _); refine wpList_gives rfl (v := .slice (cutA (some ad) i c) (E - i) (c - i)) (gives_cut_lh rfl Try.underlying48 (by rw [HI0.out]; exact congrArg some HZ1.out) rfl rfl rfl hEi hEc) ?_)
        refine (pmClone_any (cutA (some ad) i c) (E - i) (c - i) _ _ HCU.out HCN.out).mono ?_
        rintro e w2 ⟨R, rn, rc, rfl, hown, hb2⟩
        have hnw : 0 < rn → ∀ a, R = some a → w0.heap.size ≤ a.block := fun h a e => by
          rcases hown.own.2 with ⟨_, h0⟩ | ⟨g', cap, cur, hv, hg', _⟩
          · omega
          · injection hv with hv
            rw [e] at hv
            injection hv with hv
            rw [hv]
            exact hg'
        have HSL2 := hide hown.sl
        have HBK2 := hide (HBK.out.below hb2 hbw)
        have HW2 := hide (HW0.out.trans (hb2.mono HW0.out.size))
        have hf0 := HBK2.out.frozen 0
        have hf1 := HBK2.out.frozen 1
        have hc0 := HBK2.out.cell 0
        have hc1 := HBK2.out.cell 1
        simp at hc0 hc1
        have hlt2 := HBK2.out.lt
        have HNW := hide hnw
        clear hnw hown hb2 HCU HCN
        go_wp2_with fail
        refine bodyPost_ret (results_poly rfl _ rfl ((HBK2.out.set_ 0 (.int .i64 ((i : Int) - (k : Int) * 20))).set_ 1 (.slice R rn rc))) rfl ?_
        rw [HP.out]
        have hfar : 0 < rn → ∀ a, R = some a → a.block ≠ w.heap.size := fun h a e => by have := HNW.out h a e; omega
        exact ⟨R, rn, rc, rfl, (HSL2.out.setCell hfar 0 _).setCell hfar 1 _, fun h a e => by have := HNW.out h a e; omega, (HW2.out.setCell (p := ⟨w.heap.size, 0, none⟩) (Nat.le_refl _) _).setCell (p := ⟨w.heap.size, 1, none⟩) (Nat.le_refl _) _⟩
end Go.Proofs.Ytgmjighgncpefaa
/- The facts 'multiplied' that the laws of polynomials begin with. -/
namespace Go.Proofs.Ytgmjighgncpefaa
set_option linter.unusedVariables false
set_option linter.unusedSimpArgs false
open Go.RowKit

theorem mulR_k : LP.mulR (-1) [1, 1] 0 [1, 1] = (0, -1, [1, 2, 1]) := by
  have he : LP.of (-1) [1, 2, 1] = LP.of (-1) [1, 1] * LP.of 0 [1, 1] := LP.mk_eq fun k => by
    show (if -1 = k then (1 : Int) else 0) + ((if 0 = k then (2 : Int) else 0) + ((if 1 = k then (1 : Int) else 0) + 0)) = (if -1 = k then (1 : Int) else 0) + ((if 0 = k then (1 : Int) else 0) + ((if 0 = k then (1 : Int) else 0) + ((if 1 = k then (1 : Int) else 0) + 0)))
    grind
  have hc := LP.canon_eq (lo := -1) (cs := [1, 2, 1]) (.inr ⟨by simp, by decide, by decide⟩) he
  unfold LP.mulR LP.two2
  rw [if_pos (by decide), if_pos (by decide), LP.fit_ok (by rw [hc]; decide), hc]
theorem mulR_r : LP.mulR 0 [1, 1] 0 [1, -1] = (0, 0, [1, 0, -1]) := by
  have he : LP.of 0 [1, 0, -1] = LP.of 0 [1, 1] * LP.of 0 [1, -1] := LP.mk_eq fun k => by
    show (if 0 = k then (1 : Int) else 0) + ((if 1 = k then (0 : Int) else 0) + ((if 2 = k then (-1 : Int) else 0) + 0)) = (if 0 = k then (1 : Int) else 0) + ((if 1 = k then (-1 : Int) else 0) + ((if 1 = k then (1 : Int) else 0) + ((if 2 = k then (-1 : Int) else 0) + 0)))
    grind
  have hc := LP.canon_eq (lo := 0) (cs := [1, 0, -1]) (.inr ⟨by simp, by decide, by decide⟩) he
  unfold LP.mulR LP.two2
  rw [if_pos (by decide), if_pos (by decide), LP.fit_ok (by rw [hc]; decide), hc]

set_option maxRecDepth 100000 in
set_option maxHeartbeats 2000000 in
theorem multiplied_k (F : PolyC) (w : World) : Calls Try.prog 17 #[] w fun e w' => e = .returned (.bool true) ∧ Below w.heap.size w w' := by
  have hb1 : Below w.heap.size w (w.alloc (.cells #[.int .i64 1, .int .i64 1] 3)) := (Below.refl _ _).alloc (Nat.le_refl _) _
  have hb2 : Below w.heap.size w ((w.alloc (.cells #[.int .i64 1, .int .i64 1] 3)).alloc (.cells #[.int .i64 1, .int .i64 1] 3)) := hb1.alloc (by simp) _
  have s1 := (SL.lit w [1, 1] (by simp) rfl rfl).below ((Below.refl _ _).alloc (Nat.le_refl _) (.cells #[.int .i64 1, .int .i64 1] 3))
  have s2 := SL.lit (w.alloc (.cells #[.int .i64 1, .int .i64 1] 3)) [1, 1] (by simp) rfl rfl
  rw [World.size_alloc] at s2
  have HE := hide (F.mul (-1) _ 2 2 [1, 1] 0 _ 2 2 [1, 1] _ s1 s2 (by decide) (by decide))
  rw [mulR_k] at HE
  have HB2 := hide hb2
  clear hb1 hb2 s1 s2 F
  go_enter Try.func17, Try.ntmps17
  go_wp2_with fail
  refine HE.out.mono ?_
  rintro e w1 ⟨R, rn, rc, rfl, hs, _, hb⟩
  have HS := hide hs
  have HB1 := hide (HB2.out.trans (hb.mono HB2.out.size))
  clear HE hs hb HB2
  go_wp2_with fail
  have hb3 : Below w1.heap.size w1 ((w1.alloc (.cells #[.int .i64 (-1), .slice R rn rc] 25)).alloc (.cells #[.int .i64 1, .int .i64 2, .int .i64 1] 3)) := ((Below.refl _ _).alloc (Nat.le_refl _) _).alloc (by simp) _
  have s3 := SL.lit (w1.alloc (.cells #[.int .i64 (-1), .slice R rn rc] 25)) [1, 2, 1] (by simp) rfl rfl
  rw [World.size_alloc] at s3
  refine (same_k (-1) R rn rc [1, 2, 1] (-1) _ 3 3 [1, 2, 1] _ (HS.out.below hb3) s3).mono ?_
  rintro e w2 ⟨rfl, hb⟩
  rw [show (decide ((-1 : Int) = -1) && eqB [1, 2, 1] [1, 2, 1]) = true by rw [eqB_true rfl]; rfl]
  have HB4 := hide (HB1.out.trans ((hb3.trans (hb.mono hb3.size)).mono HB1.out.size))
  clear hb hb3 s3 HS
  go_wp2_with fail
  go_ret
  exact ⟨rfl, HB4.out⟩

end Go.Proofs.Ytgmjighgncpefaa
/- Package polymatrix: Det. -/
namespace Go.Proofs.Ytgmjighgncpefaa
set_option linter.unusedVariables false
set_option linter.unusedSimpArgs false
open Go.RowKit

/-- The columns 0 to k - 1. -/
def colL (k : Nat) : List Int := (List.range k).map fun i : Nat => (i : Int)
theorem colL_length (k : Nat) : (colL k).length = k := by simp [colL]
theorem colL_succ (k : Nat) : colL (k + 1) = colL k ++ [(k : Int)] := by simp [colL, List.range_succ]
theorem colL_getD {k j : Nat} (h : j < k) : (colL k).getD j 0 = (j : Int) := by simp [colL, List.getD, h]
theorem colL_mem {k : Nat} {x : Int} (h : x ∈ colL k) : 0 ≤ x ∧ x < k := by
  unfold colL at h
  obtain ⟨i, hi, rfl⟩ := List.mem_map.1 h
  have := List.mem_range.1 hi
  omega
theorem pmM_colL (pss : List (List Po)) (n : Nat) : detR n (pmM pss (colL n)) = detR n (mP pss) := detR_congr fun i _ j hj => by
  unfold pmM mP
  rw [colL_getD hj, Int.toNat_natCast]
theorem fctP_le {n : Nat} (h : n ≤ 4) : LP.fctP n * 20000 ^ n ≤ 9223372036854775807 := by
  match n, h with
  | 0, _ => decide +kernel
  | 1, _ => decide +kernel
  | 2, _ => decide +kernel
  | 3, _ => decide +kernel
  | 4, _ => decide +kernel
theorem det_bound {pss : List (List Po)} (h : sqE pss = 0) (k : Int) : (LP.co (detR pss.length (mP pss)) k).natAbs ≤ 9223372036854775807 := by
  obtain ⟨h4, _⟩ := sqE_zero h
  refine Nat.le_trans ((LP.N1.detR (E := 40) (V := 20000) fun i hi j hj => ?_).co k) (fctP_le h4)
  obtain ⟨p, h1, h2⟩ := mP_entry h hi hj
  have := (poly_n1 h2).1
  unfold mP
  rw [h1]
  exact this

set_option maxRecDepth 100000 in
set_option maxHeartbeats 4000000 in
theorem pmdet_any (A : Option Addr) (n c : Nat) (pss : List (List Po)) (w : World) (ha : SPP w A n c pss) :
    Calls Try.prog 5 #[.slice A n c] w (GivesPE w (detPR pss)) := by
  have HLEN := hide ha.len
  have hns := ha.small
  have HW : Hid (Below w.heap.size w (w.alloc (.cells #[.int .i64 0, .slice none 0 0] 25))) := hide ((Below.refl _ _).alloc (Nat.le_refl _) _)
  have HBK : Hid (Blk (w.alloc (.cells #[.int .i64 0, .slice none 0 0] 25)) w.heap.size 25 #[.int .i64 0, .slice none 0 0]) := hide (Blk.new _ _ _)
  have HA := hide (ha.below HW.out)
  obtain ⟨T, hT⟩ : ∃ T, detPR pss = T := ⟨_, rfl⟩
  have HT := hide hT
  rw [hT]
  clear hT ha
  obtain ⟨i0, hi0, hz0, hz1, hz2⟩ := info_parts int_info
  go_enter Try.func5, Try.ntmps5
  go_upto_region 1 with fail
  obtain ⟨w0, hw0⟩ : ∃ x, w.alloc (.cells #[.int .i64 0, .slice none 0 0] 25) = x := ⟨_, rfl⟩
  rw [hw0] at HW HBK HA ⊢
  clear hw0
  go_wp2_with fail
  refine (pmcheck_any A n c pss _ HA.out).mono ?_
  rintro e w1 ⟨rfl, hb⟩
  replace HA := hide (HA.out.below hb)
  replace HW := hide (HW.out.trans (hb.mono HW.out.size))
  replace HBK := hide (HBK.out.below hb HBK.out.lt)
  clear hb
  obtain ⟨p, hp⟩ : ∃ p, sqE pss = p := ⟨_, rfl⟩
  rw [hp]
  have HP := hide hp
  clear hp
  by_cases hp0 : p = 0
  case neg =>
    have HTE : Hid (T = (p, 0, [])) := hide (by rw [← HT.out]; unfold detPR; rw [if_neg (by rw [HP.out]; exact hp0), HP.out])
    have hne : (p != 0) = true := by simpa using hp0
    have hf0 := HBK.out.frozen 0
    have hf1 := HBK.out.frozen 1
    have hr0 := HBK.out.cell 0
    have hr1 := HBK.out.cell 1
    simp at hr0 hr1
    have hlt := HBK.out.lt
    clear hp0
    go_wp2_with fail
    refine bodyPost_ret (results_pe rfl _ rfl rfl ((HBK.out.set_ 0 (.int .i64 0)).set_ 1 (.slice none 0 0))) rfl ?_
    rw [HTE.out]
    refine ⟨none, 0, 0, rfl, SL.nil_ _, fun h => absurd h (by omega), ?_⟩
    exact (HW.out.setCell (p := ⟨w.heap.size, 0, none⟩) (Nat.le_refl _) _).setCell (p := ⟨w.heap.size, 1, none⟩) (Nat.le_refl _) _
  subst hp0
  obtain ⟨h4, hrow⟩ := sqE_zero HP.out
  rw [HLEN.out] at h4
  have HROW : Hid (∀ r ∈ pss, r.length = n ∧ ∀ p ∈ r, polyE p = 0) := hide (fun r hr => ⟨by rw [(hrow r hr).1, HLEN.out], (hrow r hr).2⟩)
  have HTE : Hid (T = LP.fit (detR n (mP pss))) := hide (by rw [← HT.out]; unfold detPR; rw [if_pos HP.out, HLEN.out])
  have HDB : Hid (∀ k, (LP.co (detR n (mP pss)) k).natAbs ≤ 9223372036854775807) := hide (fun k => by have := det_bound HP.out k; rwa [HLEN.out] at this)
  have HMM := hide (pmM_colL pss n)
  have h4' := h4
  clear hrow HP HT
  go_upto_region 5 with fail
  go_wp2_with fail
  go_loopw [5, 16] (fun cv iv wx => ∃ (k : Nat) (C : Option Addr) (cc : Nat), k ≤ n ∧ iv = .int .i64 k ∧ cv = .slice C k cc ∧ Hid (OwnI wx w1.heap.size C k cc (colL k)) ∧ Hid (Below w1.heap.size w1 wx)) (fun _ iv _ => n - (intOf iv).toNat)
  case atStart => exact ⟨0, none, 0, Nat.zero_le _, rfl, rfl, hide (OwnI.nil_ _ _), hide (Below.refl _ _)⟩
  case round =>
    obtain ⟨k, C, cc, hk, rfl, rfl, HO, HW1⟩ := hrel
    by_cases hkn : k < n
    · have HS := hide (colL_succ k)
      have hszw := HW1.out.size
      have hok := HO.out
      go_wp2_with (first | (at_builtin; refine wpList_append_int _ rfl (.tmp 19) (.tmp 21) 23 rfl w1.heap.size i0 Try.underlying23 hi0 hz0 hz1 hz2 C k cc (colL k) rfl (hok.alloc _) (some ⟨wr.heap.size, 0, none⟩) 1 1 [(k : Int)] rfl (IL.lit wr [(k : Int)] (by simp) rfl rfl) (by omega) (Nat.le_trans hszw (by simp)) ?_; intro A9 c9 w9 happ))
      have ho := happ.own
      rw [← HS.out] at ho
      have HO9 := hide ho
      have hlies : ∀ g, (Value.slice C k cc).ownBlock = some g → w1.heap.size ≤ g := fun g hg => (hok.lt g hg).1
      have HW9 : Hid (Below w1.heap.size w1 w9) := hide ((HW1.out.alloc hszw _).grown happ.grown (Nat.le_trans hszw (by simp)) (fun g hg => hlies g (by rw [ownBlock_len C k (k + 1) cc cc]; exact hg)))
      clear happ ho hlies hok HO HW1
      go_wp2_with fail
      go_roundw
      case rel => exact ⟨k + 1, A9, c9, by omega, by go_num, rfl, HO9, HW9⟩
      case measure => simp [intOf]; omega
    · have hke : k = n := by omega
      subst hke
      replace HA := hide (HA.out.below HW1.out)
      replace HW := hide (HW.out.trans (HW1.out.mono HW.out.size))
      replace HBK := hide (HBK.out.below HW1.out HBK.out.lt)
      have HC := hide HO.out.sl
      clear HO
      go_wp2_with fail
      refine (expandP_any k k A c pss C cc (colL k) _ HA.out HC.out h4' HROW.out (fun x hx => colL_mem hx)).mono ?_
      rintro e w2 ⟨R, d, ys, rfl, hown, hlp, hb⟩
      rw [HMM.out] at hlp
      have hyl : ys.length = 59 * k + 1 := by have := hown.len; simpa using this
      have hym : ys.map wr64 = ys := map_wr64 fun y hy => by
        obtain ⟨j, hj, rfl⟩ := List.mem_iff_getElem.1 hy
        have h1 := HDB.out (-20 * (k : Int) + j)
        rw [← hlp, LP.co_of_at hj] at h1
        rwa [show ys.getD j 0 = ys[j] by simp [List.getD, List.getElem?_eq_getElem hj]] at h1
      rw [hym] at hown
      have HR := hide hown.sl
      have HLP := hide hlp
      replace HW := hide (HW.out.trans (hb.mono HW.out.size))
      replace HBK := hide (HBK.out.below hb HBK.out.lt)
      clear hown hlp hb hyl hym HC HA HMM HDB HROW
      go_wp2_with fail
      refine (pmPoly_any R (59 * k + 1) d ys k _ HR.out rfl h4').mono ?_
      rintro e w3 ⟨Q, qn, qc, rfl, hsq, hnw, hb⟩
      rw [HLP.out] at hsq ⊢
      obtain ⟨q, hq⟩ : ∃ q, LP.canon (detR k (mP pss)) = q := ⟨_, rfl⟩
      have HF : Hid (T = if LP.pfl q.1 q.2 = 0 then (0, q.1, q.2) else (2, 0, [])) := hide (by rw [HTE.out]; unfold LP.fit; rw [hq])
      rw [hq] at hsq ⊢
      obtain ⟨lo, xs⟩ := q
      dsimp only at hsq HF ⊢
      clear hq HLP HTE HR
      have hfar : 0 < qn → ∀ a, Q = some a → a.block ≠ w.heap.size ∧ w.heap.size ≤ a.block := fun h a e => by
        have h1 := hnw h a e
        have h2 := HBK.out.lt
        omega
      replace HW := hide (HW.out.trans (hb.mono HW.out.size))
      replace HBK := hide (HBK.out.below hb HBK.out.lt)
      have HSQ := hide hsq
      have HFAR := hide hfar
      clear hb hnw hsq hfar
      go_upto_region 11 with fail
      have hbk := HBK.out.lt
      have hb7 : Below w3.heap.size w3 (w3.alloc (.cells #[.int .i64 lo, .slice Q qn qc] 25)) := (Below.refl _ _).alloc (Nat.le_refl _) _
      have B7 := hide (Blk.new w3 25 #[.int .i64 lo, .slice Q qn qc])
      replace HSQ := hide (HSQ.out.below hb7)
      replace HW := hide (HW.out.trans (hb7.mono HW.out.size))
      replace HBK := hide (HBK.out.below hb7 hbk)
      have hne7 : w3.heap.size ≠ w.heap.size := by omega
      obtain ⟨b7, hb7e⟩ : ∃ q, w3.heap.size = q := ⟨_, rfl⟩
      obtain ⟨w4, hw4⟩ : ∃ q, w3.alloc (.cells #[.int .i64 lo, .slice Q qn qc] 25) = q := ⟨_, rfl⟩
      rw [hw4] at B7 HSQ HW HBK ⊢
      rw [hb7e] at B7 hne7 hbk ⊢
      clear hb7 hw4 hb7e
      have hz0 := B7.out.cell 0
      have hz1 := B7.out.cell 1
      simp at hz0 hz1
      go_wp2_with fail
      refine (lcheck_any lo Q qn qc xs _ HSQ.out).mono ?_
      rintro e w5 ⟨rfl, hb⟩
      replace HSQ := hide (HSQ.out.below hb)
      replace HW := hide (HW.out.trans (hb.mono HW.out.size))
      have hl7 := B7.out.lt
      replace HBK := hide (HBK.out.below hb (by omega))
      replace B7 := hide (B7.out.below hb hl7)
      clear hb hz0 hz1 hl7
      obtain ⟨f, hf⟩ : ∃ f, LP.pfl lo xs = f := ⟨_, rfl⟩
      rw [hf] at HF ⊢
      clear hf
      have hz0 := B7.out.cell 0
      have hz1 := B7.out.cell 1
      simp at hz0 hz1
      have hf0 := HBK.out.frozen 0
      have hf1 := HBK.out.frozen 1
      have hc0 := HBK.out.cell 0
      have hc1 := HBK.out.cell 1
      simp at hc0 hc1
      have hlt := HBK.out.lt
      by_cases hf : f = 0
      · subst hf
        rw [if_pos rfl] at HF
        have hfar : 0 < qn → ∀ a, Q = some a → a.block ≠ w.heap.size := fun h a e => (HFAR.out h a e).1
        have HFA := hide hfar
        clear hfar
        go_wp2_with fail
        refine bodyPost_ret (results_pe rfl _ rfl rfl ((HBK.out.set_ 0 (.int .i64 lo)).set_ 1 (.slice Q qn qc))) rfl ?_
        rw [HF.out]
        exact ⟨Q, qn, qc, rfl, (HSQ.out.setCell HFA.out 0 _).setCell HFA.out 1 _, fun h a e => (HFAR.out h a e).2, (HW.out.setCell (p := ⟨w.heap.size, 0, none⟩) (Nat.le_refl _) _).setCell (p := ⟨w.heap.size, 1, none⟩) (Nat.le_refl _) _⟩
      · have hne : (f != 0) = true := by simpa using hf
        rw [if_neg hf] at HF
        clear hf
        go_wp2_with fail
        refine bodyPost_ret (results_pe rfl _ rfl rfl ((HBK.out.set_ 0 (.int .i64 0)).set_ 1 (.slice none 0 0))) rfl ?_
        rw [HF.out]
        exact ⟨none, 0, 0, rfl, SL.nil_ _, fun h => absurd h (by omega), (HW.out.setCell (p := ⟨w.heap.size, 0, none⟩) (Nat.le_refl _) _).setCell (p := ⟨w.heap.size, 1, none⟩) (Nat.le_refl _) _⟩

theorem pmC : PmC where
  check := pmcheck_any
  det := pmdet_any
end Go.Proofs.Ytgmjighgncpefaa
/- Package laurent: the end of a polynomial, its coefficients as a function, both checks, what is accepted. -/
namespace Go.Proofs.Ytgmjighgncpefaa
set_option linter.unusedVariables false
set_option linter.unusedSimpArgs false
open Go.RowKit

set_option maxRecDepth 100000 in
set_option maxHeartbeats 2000000 in
theorem endOf_any (la : Int) (A : Option Addr) (n c : Nat) (w : World) (h1 : la.natAbs ≤ 1000000) (h2 : n ≤ 1000000) :
    Calls Try.prog 46 #[PV la A n c] w fun e w' => e = .returned (.int .i64 (la + n)) ∧ w' = w.alloc (.cells #[.int .i64 la, .slice A n c] 25) := by
  have hw : IntKind.i64.wrap (la + (n : Int)) = la + n := by rw [IntKind.wrap_i64]; omega
  have hb1 := Blk.new w 25 #[.int .i64 la, .slice A n c]
  obtain ⟨w0, hw0⟩ : ∃ x, w.alloc (.cells #[.int .i64 la, .slice A n c] 25) = x := ⟨_, rfl⟩
  rw [hw0] at hb1
  have hq0 := hb1.cell 0
  have hq1 := hb1.cell 1
  simp at hq0 hq1
  clear hb1
  have HW0 := hide hw0
  go_enter Try.func46, Try.ntmps46
  go_upto_region 1 with fail
  clear hw0
  go_wp2_with fail
  go_ret
  exact ⟨rfl, HW0.out.symm⟩
theorem eEndOf : ∀ args w, (callFunc 46 args).run Try.prog w = .ok (.enter 46 args) w := enters (fn := Try.f46) (by kernel_rfl) (by kernel_rfl) (by kernel_rfl)

set_option maxRecDepth 100000 in
set_option maxHeartbeats 2000000 in
theorem coefficients_any (la : Int) (A : Option Addr) (n c : Nat) (w : World) :
    Calls Try.prog 44 #[PV la A n c] w fun e w' => e = .returned (.func (.func 52) #[] #[.pointer (some ⟨w.heap.size, 0, none⟩)]) ∧ w' = w.alloc (.cells #[.int .i64 la, .slice A n c] 25) := by
  have hmf : ∀ (fn : Fn) (first cap : Array Value) (w : World), (Instr.makeFunc fn first cap).run Try.prog w = .ok (.func fn first cap) w := fun _ _ _ _ => rfl
  go_enter Try.func44, Try.ntmps44
  go_wp2_with fail
  go_ret
  exact ⟨rfl, rfl⟩
theorem eCoeffs : ∀ args w, (callFunc 44 args).run Try.prog w = .ok (.enter 44 args) w := enters (fn := Try.f44) (by kernel_rfl) (by kernel_rfl) (by kernel_rfl)
theorem eCoeff : ∀ args w, (callFunc 52 args).run Try.prog w = .ok (.enter 52 args) w := enters (fn := Try.f52) (by kernel_rfl) (by kernel_rfl) (by kernel_rfl)

set_option maxRecDepth 100000 in
set_option maxHeartbeats 2000000 in
theorem coeff_any (la : Int) (A : Option Addr) (n c : Nat) (xs : List Int) (b : Nat) (x : Int) (w : World) (ha : SL w A n c xs) (hb : Blk w b 25 #[.int .i64 la, .slice A n c]) (h1 : la.natAbs ≤ 1000000) (h2 : n ≤ 1000000) (h3 : x.natAbs ≤ 100000000) :
    Calls Try.prog 52 #[.int .i64 x, .pointer (some ⟨b, 0, none⟩)] w fun e w' => e = .returned (.int .i64 (LP.co (LP.of la xs) x)) ∧ Below w.heap.size w w' := by
  have hl := ha.il.len
  have HC : Hid (LP.co (LP.of la xs) x = if la ≤ x ∧ x < la + n then xs.getD (x - la).toNat 0 else 0) := hide (by rw [LP.co_of, hl])
  have hq0 := hb.cell 0
  have hq1 := hb.cell 1
  simp at hq0 hq1
  have HE := hide (endOf_any la A n c w h1 h2)
  have hbb : Below w.heap.size w (w.alloc (.cells #[.int .i64 la, .slice A n c] 25)) := (Below.refl _ _).alloc (Nat.le_refl _) _
  have HBB := hide hbb
  by_cases hlo : x < la
  · have HR : Hid (LP.co (LP.of la xs) x = 0) := hide (by rw [HC.out, if_neg (by omega)])
    have HB0 := hide (Below.refl w.heap.size w)
    clear ha hb HE hbb HBB HC
    go_enter Try.func52, Try.ntmps52
    go_wp2_with fail
    go_ret
    rw [HR.out]
    exact ⟨rfl, HB0.out⟩
  by_cases hhi : la + n ≤ x
  · have HR : Hid (LP.co (LP.of la xs) x = 0) := hide (by rw [HC.out, if_neg (by omega)])
    clear ha hb hbb HC
    go_enter Try.func52, Try.ntmps52
    go_wp2_with fail
    refine HE.out.mono ?_
    rintro e w1 ⟨rfl, rfl⟩
    have HBB1 := hide HBB.out
    clear HBB hq0 hq1
    generalize w.alloc (.cells #[.int .i64 la, .slice A n c] 25) = w1 at *
    go_wp2_with fail
    go_ret
    rw [HR.out]
    exact ⟨rfl, HBB1.out⟩
  · obtain ⟨k, hk⟩ : ∃ k : Nat, x = la + k := ⟨(x - la).toNat, by omega⟩
    have hkn : k < n := by omega
    have HR : Hid (LP.co (LP.of la xs) x = xs.getD k 0) := hide (by rw [HC.out, if_pos (by omega), show (x - la).toNat = k by omega])
    obtain ⟨ad, hA, hc⟩ := (ha.below hbb).il.at_ hkn
    have hq2 := (hb.below hbb hb.lt).cell 0
    have hq3 := (hb.below hbb hb.lt).cell 1
    simp at hq2 hq3
    have hw : IntKind.i64.wrap (la + (k : Int) - la) = k := by rw [IntKind.wrap_i64]; omega
    subst hA hk
    obtain ⟨y, hy⟩ : ∃ y, xs.getD k 0 = y := ⟨_, rfl⟩
    rw [hy] at hc HR
    clear hy
    have HC2 := hide hc
    have HQ2 := hide hq2
    have HQ3 := hide hq3
    clear ha hb hbb HC hc hq2 hq3
    go_enter Try.func52, Try.ntmps52
    go_wp2_with fail
    refine HE.out.mono ?_
    rintro e w1 ⟨rfl, rfl⟩
    have HBB1 := hide HBB.out
    clear HBB hq0 hq1
    have hc := HC2.out
    have hq2 := HQ2.out
    have hq3 := HQ3.out
    clear HC2 HQ2 HQ3
    generalize w.alloc (.cells #[.int .i64 la, .slice (some ad) n c] 25) = w1 at *
    go_wp2_with fail
    go_ret
    rw [HR.out]
    exact ⟨rfl, HBB1.out⟩

/-- The error of two polynomials. -/
def LP.pfl2 (la : Int) (xs : List Int) (lb : Int) (ys : List Int) : Int := if pfl la xs = 0 then pfl lb ys else pfl la xs
set_option maxRecDepth 100000 in
set_option maxHeartbeats 2000000 in
theorem checkBoth_any (la : Int) (A : Option Addr) (n c : Nat) (xs : List Int) (lb : Int) (B : Option Addr) (m d : Nat) (ys : List Int) (w : World) (ha : SL w A n c xs) (hb : SL w B m d ys) :
    Calls Try.prog 43 #[PV la A n c, PV lb B m d] w fun e w' => e = .returned (.int .i64 (LP.pfl2 la xs lb ys)) ∧ Below w.heap.size w w' := by
  have h1 : Below w.heap.size w ((w.alloc (.cells #[.int .i64 la, .slice A n c] 25)).alloc (.cells #[.int .i64 lb, .slice B m d] 25)) := ((Below.refl _ _).alloc (Nat.le_refl _) _).alloc (by simp) _
  have hB2 := Blk.new (w.alloc (.cells #[.int .i64 la, .slice A n c] 25)) 25 #[.int .i64 lb, .slice B m d]
  have HW := hide h1
  have HA := hide (lcheck_any la A n c xs _ (ha.below h1))
  have HBS := hide (hb.below h1)
  simp only [World.size_alloc] at hB2
  have HB2 := hide hB2
  clear ha hb hB2 h1
  go_enter Try.func43, Try.ntmps43
  go_upto_region 1 with fail
  obtain ⟨w0, hw0⟩ : ∃ x, ((w.alloc (.cells #[.int .i64 la, .slice A n c] 25)).alloc (.cells #[.int .i64 lb, .slice B m d] 25)) = x := ⟨_, rfl⟩
  have hB1 := (Blk.new w 25 #[.int .i64 la, .slice A n c]).alloc (.cells #[.int .i64 lb, .slice B m d] 25)
  rw [hw0] at HW HA HBS HB2 hB1 ⊢
  have hq0 := hB1.cell 0
  have hq1 := hB1.cell 1
  simp at hq0 hq1
  clear hw0 hB1
  go_wp2_with fail
  refine HA.out.mono ?_
  rintro e w1 ⟨rfl, hb⟩
  have HW1 := hide (HW.out.trans (hb.mono HW.out.size))
  have HB1 := hide (HBS.out.below hb)
  have hk := HB2.out.below hb HB2.out.lt
  have hr0 := hk.cell 0
  have hr1 := hk.cell 1
  simp at hr0 hr1
  obtain ⟨p, hp⟩ : ∃ p, LP.pfl la xs = p := ⟨_, rfl⟩
  have HP : Hid (LP.pfl2 la xs lb ys = if p = 0 then LP.pfl lb ys else p) := hide (by unfold LP.pfl2; rw [hp])
  rw [hp]
  clear hb HA HBS HB2 hq0 hq1 hk hp
  by_cases h0 : p = 0
  · subst h0
    go_wp2_with fail
    refine (lcheck_any lb B m d ys _ HB1.out).mono ?_
    rintro e w2 ⟨rfl, hb⟩
    have HW2 := hide (HW1.out.trans (hb.mono HW1.out.size))
    clear hb hr0 hr1
    go_wp2_with fail
    go_ret
    rw [HP.out, if_pos trivial]
    exact ⟨rfl, HW2.out⟩
  · have hne : (p != 0) = true := by simpa using h0
    go_wp2_with fail
    go_ret
    rw [HP.out, if_neg h0]
    exact ⟨rfl, HW1.out⟩

set_option maxRecDepth 100000 in
set_option maxHeartbeats 2000000 in
theorem accepted_any (la : Int) (A : Option Addr) (n c : Nat) (xs : List Int) (w : World) (ha : SL w A n c xs) :
    Calls Try.prog 53 #[PV la A n c] w fun e w' => ∃ B m d, e = .returned (.tuple #[PV (LP.fitL la xs).2.1 B m d, .int .i64 (LP.fitL la xs).1]) ∧ SL w' B m d (LP.fitL la xs).2.2 ∧ (0 < m → B = A ∧ m = n) ∧ Below w.heap.size w w' := by
  have hb1 := (Blk.new w 25 #[.int .i64 la, .slice A n c]).alloc (.cells #[.int .i64 0, .slice none 0 0] 25)
  have hb2 := Blk.new (w.alloc (.cells #[.int .i64 la, .slice A n c] 25)) 25 #[.int .i64 0, .slice none 0 0]
  have hbw : Below w.heap.size w ((w.alloc (.cells #[.int .i64 la, .slice A n c] 25)).alloc (.cells #[.int .i64 0, .slice none 0 0] 25)) := ((Below.refl _ _).alloc (Nat.le_refl _) _).alloc (by simp) _
  have HA := hide (ha.below hbw)
  have HW := hide hbw
  simp only [World.size_alloc] at hb2
  have B1 := hide hb1
  have B2 := hide hb2
  have hin := ha.inside
  clear hb1 hb2 hbw ha
  have HI := hide hin
  clear hin
  go_enter Try.func53, Try.ntmps53
  go_upto_region 1 with fail
  obtain ⟨w0, hw0⟩ : ∃ x, ((w.alloc (.cells #[.int .i64 la, .slice A n c] 25)).alloc (.cells #[.int .i64 0, .slice none 0 0] 25)) = x := ⟨_, rfl⟩
  rw [hw0] at HA HW B1 B2 ⊢
  clear hw0
  have l1 := B1.out.lt
  have l2 := B2.out.lt
  have hq0 := B1.out.cell 0
  have hq1 := B1.out.cell 1
  simp at hq0 hq1
  go_wp2_with fail
  refine (lcheck_any la A n c xs _ HA.out).mono ?_
  rintro e w1 ⟨rfl, hb⟩
  replace HA := hide (HA.out.below hb)
  replace HW := hide (HW.out.trans (hb.mono HW.out.size))
  replace B1 := hide (B1.out.below hb l1)
  replace B2 := hide (B2.out.below hb l2)
  clear hb hq0 hq1 l1 l2
  have l1 := B1.out.lt
  have l2 := B2.out.lt
  have hq0 := B1.out.cell 0
  have hq1 := B1.out.cell 1
  simp at hq0 hq1
  have hr0 := B2.out.cell 0
  have hr1 := B2.out.cell 1
  simp at hr0 hr1
  have hf0 := B2.out.frozen 0
  have hf1 := B2.out.frozen 1
  have HB0 := hide (Below.refl w.heap.size w)
  by_cases hp : LP.pfl la xs = 0
  · have HR : Hid (LP.fitL la xs = (0, la, xs)) := hide (by unfold LP.fitL; rw [if_pos hp])
    rw [hp]
    go_wp2_with fail
    refine bodyPost_ret (results_pe rfl _ rfl rfl ((B2.out.set_ 0 (.int .i64 la)).set_ 1 (.slice A n c))) rfl ?_
    rw [HR.out]
    refine ⟨A, n, c, rfl, ?_, fun _ => ⟨rfl, rfl⟩, ?_⟩
    · exact (HA.out.setCell (fun h ad e => by have := HI.out h ad e; omega) 0 _).setCell (fun h ad e => by have := HI.out h ad e; omega) 1 _
    · exact (HW.out.setCell (p := ⟨w.heap.size + 1, 0, none⟩) (by show w.heap.size ≤ w.heap.size + 1; omega) _).setCell (p := ⟨w.heap.size + 1, 1, none⟩) (by show w.heap.size ≤ w.heap.size + 1; omega) _
  · have HR : Hid (LP.fitL la xs = (2, 0, [])) := hide (by unfold LP.fitL; rw [if_neg hp])
    have hne : (LP.pfl la xs != 0) = true := by simpa using hp
    clear hp
    go_wp2_with fail
    refine bodyPost_ret (results_pe rfl _ rfl rfl ((B2.out.set_ 0 (.int .i64 0)).set_ 1 (.slice none 0 0))) rfl ?_
    rw [HR.out]
    refine ⟨none, 0, 0, rfl, SL.nil_ _, fun h => absurd h (by omega), ?_⟩
    exact (HW.out.setCell (p := ⟨w.heap.size + 1, 0, none⟩) (by show w.heap.size ≤ w.heap.size + 1; omega) _).setCell (p := ⟨w.heap.size + 1, 1, none⟩) (by show w.heap.size ≤ w.heap.size + 1; omega) _
theorem eAccepted : ∀ args w, (callFunc 53 args).run Try.prog w = .ok (.enter 53 args) w := enters (fn := Try.f53) (by kernel_rfl) (by kernel_rfl) (by kernel_rfl)
theorem eTrimmed : ∀ args w, (callFunc 54 args).run Try.prog w = .ok (.enter 54 args) w := enters (fn := Try.f54) (by kernel_rfl) (by kernel_rfl) (by kernel_rfl)
end Go.Proofs.Ytgmjighgncpefaa
