/- slices.IndexFunc and slices.DeleteFunc of integers, with a function that only answers. -/
import Derived.Test.YtgjblcfcbohjdaaDoorDelete
import Derived.Test.YtgjblcfcbohjdaaDoorBase
import Derived.Lib.SliceRun
namespace Go.Proofs.YtgjblcfcbohjdaaDoor
set_option linter.unusedVariables false
set_option linter.unusedSimpArgs false
open Go.RowKit

theorem cntP_take {xs : List Int} {k : Nat} (p : Int → Bool) (hk : k < xs.length) : (xs.take (k + 1)).countP p = (xs.take k).countP p + if p (xs.getD k 0) then 1 else 0 := by
  rw [List.take_succ_eq_append_getElem hk, List.countP_append, List.countP_singleton]
  simp [List.getD, List.getElem?_eq_getElem hk]
theorem cntP_take_all {xs : List Int} (p : Int → Bool) : ∀ k, k ≤ xs.length → (∀ j, j < k → p (xs.getD j 0) = true) → (xs.take k).countP p = k
  | 0, _, _ => rfl
  | k + 1, hk, h => by rw [cntP_take p (by omega), cntP_take_all p k (by omega) fun j hj => h j (by omega), h k (by omega)]; rfl

set_option maxRecDepth 100000 in
set_option maxHeartbeats 2000000 in
theorem intIndex_any {fid : FuncId} {caps : List Value} (f : Int → Bool) (hfid : ∀ args w, (callFunc fid args).run Tryd.prog w = .ok (.enter fid args) w) (A : Option Addr) (n c : Nat) (xs : List Int) (w : World) (ha : IL w A n xs)
    (hf : ∀ x w, Calls Tryd.prog fid (.int .i64 x :: caps).toArray w fun e w' => e = .returned (.bool (f x)) ∧ w = w') :
    Calls Tryd.prog 43 #[.slice A n c, .func (.func fid) #[] caps.toArray] w fun e w' => ((e = .returned (.int .i64 (-1)) ∧ ∀ j, j < n → f (xs.getD j 0) = false) ∨ ∃ k : Nat, e = .returned (.int .i64 k) ∧ k < n ∧ f (xs.getD k 0) = true ∧ ∀ j, j < k → f (xs.getD j 0) = false) ∧ w = w' := by
  have hs := ha.small
  have HA := hide ha
  have HF := hide hf
  clear ha hf
  go_enter Tryd.func43, Tryd.ntmps43
  go_wp2
  go_loop [8] (fun i => ∃ k : Nat, k ≤ n ∧ i = .int .i64 k ∧ Hid (∀ j, j < k → f (xs.getD j 0) = false)) (fun i => n - (intOf i).toNat)
  case atStart => exact ⟨0, Nat.zero_le _, rfl, hide (fun j hj => absurd hj (by omega))⟩
  case round =>
    obtain ⟨k, hk, rfl, HN⟩ := hrel
    by_cases hlt : k < n
    · obtain ⟨ad, rfl, hc⟩ := HA.out.at_ hlt
      have HC := hide (HF.out (xs.getD k 0) w)
      by_cases hfk : f (xs.getD k 0) = true
      · have HY := hide hfk
        rw [hfk] at HC
        clear hfk
        go_wp2_with fail
        refine HC.out.mono ?_
        rintro e w1 ⟨rfl, rfl⟩
        go_wp2_with fail
        go_ret
        exact ⟨.inr ⟨k, rfl, hlt, HY.out, HN.out⟩, rfl⟩
      · have hfk' : f (xs.getD k 0) = false := by simpa using hfk
        have HN2 : Hid (∀ j, j < k + 1 → f (xs.getD j 0) = false) := hide (fun j hj => by
          by_cases e : j = k
          · rw [e]; exact hfk'
          · exact HN.out j (by omega))
        rw [hfk'] at HC
        clear hfk hfk'
        go_wp2_with fail
        refine HC.out.mono ?_
        rintro e w1 ⟨rfl, rfl⟩
        go_wp2_with fail
        go_round
        case rel => exact ⟨k + 1, by omega, by go_num, HN2⟩
        case measure => simp [intOf]; omega
    · go_wp2_with fail
      go_ret
      exact ⟨.inl ⟨rfl, fun j hj => HN.out j (by omega)⟩, rfl⟩
theorem eIntIx : ∀ args w, (callFunc 43 args).run Tryd.prog w = .ok (.enter 43 args) w := enters (fn := Tryd.f43) (by kernel_rfl) (by kernel_rfl) (by kernel_rfl)
theorem zeroInt (w : World) : (zeroValue 3).run Tryd.prog w = .ok (.int .i64 0) w := by kernel_rfl

set_option maxRecDepth 100000 in
set_option maxHeartbeats 4000000 in
theorem delFunc_any {fid : FuncId} {caps : List Value} (f : Int → Bool) (hfid : ∀ args w, (callFunc fid args).run Tryd.prog w = .ok (.enter fid args) w) (base g n c : Nat) (xs : List Int) (w : World) (ha : OwnI w base (some ⟨g, 0, none⟩) n c xs)
    (hf : ∀ x w, Calls Tryd.prog fid (.int .i64 x :: caps).toArray w fun e w' => e = .returned (.bool (f x)) ∧ w = w') :
    Calls Tryd.prog 28 #[.slice (some ⟨g, 0, none⟩) n c, .func (.func fid) #[] caps.toArray] w fun e w' => e = .returned (.slice (some ⟨g, 0, none⟩) (xs.countP fun x => !f x) c) ∧ w.grownBy w' (some g) := by
  have hs := ha.small
  have hcap := ha.cap
  have HLEN := hide ha.len
  have HA := hide ha
  have HF := hide hf
  have HI := hide (intIndex_any (caps := caps) f hfid (some ⟨g, 0, none⟩) n c xs w ha.il hf)
  have ex := eIntIx
  have hcm : c ≤ 9223372036854775807 := by
    rcases ha.own.2 with ⟨hv, _⟩ | ⟨g', cap, cur, hv, _, _, _, hcm, _⟩
    · cases hv
    · simp only [Value.slice.injEq, true_and] at hv
      obtain ⟨_, rfl⟩ := hv
      unfold maxLen at hcm
      exact hcm
  clear ha hf
  go_enter Tryd.func28, Tryd.ntmps28
  go_wp2_with fail
  refine HI.out.mono ?_
  rintro e w1 ⟨h | h, rfl⟩
  · obtain ⟨rfl, h⟩ := h
    have HE : Hid ((xs.countP fun x => !f x) = n) := hide (by
      have h2 := cntP_take_all (xs := xs) (fun x => !f x) n (by rw [HLEN.out]; omega) fun j hj => by rw [h j hj]; rfl
      rwa [List.take_of_length_le (by rw [HLEN.out]; omega)] at h2)
    clear h HI
    go_wp2_with fail
    go_ret
    rw [HE.out]
    exact ⟨rfl, World.grownBy.refl _ _⟩
  · obtain ⟨k, rfl, hk, hfk, hno⟩ := h
    have HC0 : Hid ((xs.take (k + 1)).countP (fun x => !f x) = k) := hide (by
      rw [cntP_take _ (by rw [HLEN.out]; exact hk), cntP_take_all (fun x => !f x) k (by rw [HLEN.out]; omega) (fun j hj => by rw [hno j hj]; rfl), hfk]
      rfl)
    have hneg : ((k : Int) == -1) = false := by simp
    clear HI hfk hno
    go_wp2_with fail
    go_loopw [5, 6] (fun iv jv wr => ∃ (i j : Nat) (ys : List Int), iv = .int .i64 i ∧ jv = .int .i64 j ∧ i < j ∧ j ≤ n ∧ Hid ((xs.take j).countP (fun x => !f x) = i) ∧ OwnI wr base (some ⟨g, 0, none⟩) n c ys ∧ Hid (∀ t, j ≤ t → t < n → ys.getD t 0 = xs.getD t 0) ∧ w.grownBy wr (some g)) (fun _ jv _ => n - (intOf jv).toNat)
    case atStart => exact ⟨k, k + 1, xs, rfl, by go_num, by omega, by omega, HC0, HA.out, hide (fun _ _ _ => rfl), World.grownBy.refl _ _⟩
    case round =>
      obtain ⟨i, j, ys, rfl, rfl, hij, hj, HC, ho, HY, hg⟩ := hrel
      have HO := hide ho
      have HG := hide hg
      clear HC0 HA hneg
      by_cases hlt : j < n
      · have hcell := ho.cell hlt
        rw [HY.out j (Nat.le_refl _) hlt] at hcell
        have HT := hide (cntP_take (xs := xs) (k := j) (fun x => !f x) (by rw [HLEN.out]; exact hlt))
        obtain ⟨x, hx⟩ : ∃ x, xs.getD j 0 = x := ⟨_, rfl⟩
        have HX := hide (HF.out x wr)
        have HXE := hide hx
        rw [hx] at hcell HT
        clear hx ho hg
        by_cases hfx : f x = true
        · have HT2 : Hid ((xs.take (j + 1)).countP (fun x => !f x) = i) := hide (by rw [HT.out, HC.out, hfx]; rfl)
          have HY2 : Hid (∀ t, j + 1 ≤ t → t < n → ys.getD t 0 = xs.getD t 0) := hide (fun t ht h => HY.out t (by omega) h)
          rw [hfx] at HX
          clear hfx HT HC HY
          go_wp2_with fail
          refine HX.out.mono ?_
          rintro e w1 ⟨rfl, rfl⟩
          go_wp2_with fail
          go_roundw
          case rel => exact ⟨i, j + 1, ys, rfl, by go_num, by omega, by omega, HT2, HO.out, HY2, HG.out⟩
          case measure => simp [intOf]; omega
        · have hfx' : f x = false := by simpa using hfx
          have HT2 : Hid ((xs.take (j + 1)).countP (fun x => !f x) = i + 1) := hide (by rw [HT.out, HC.out, hfx']; rfl)
          have HY2 : Hid (∀ t, j + 1 ≤ t → t < n → (ys.set i x).getD t 0 = xs.getD t 0) := hide (fun t ht h => by
            rw [List.getD_eq_getElem?_getD, List.getElem?_set_ne (by omega), ← List.getD_eq_getElem?_getD]
            exact HY.out t (by omega) h)
          have HN := hide (HO.out.set_ i x)
          have HGN := hide (grownBy_setCells g [Value.int .i64 x] i _ _ HG.out)
          have hci := HO.out.cell (show i < n by omega)
          have hfr := HO.out.frozen i
          rw [hfx'] at HX
          clear hfx hfx' HT HC HY HO HG
          go_wp2_with fail
          refine HX.out.mono ?_
          rintro e w1 ⟨rfl, rfl⟩
          clear HX
          go_wp2_with fail
          go_roundw
          case rel => exact ⟨i + 1, j + 1, ys.set i x, by go_num, by go_num, by omega, by omega, HT2, HN.out, HY2, HGN.out⟩
          case measure => simp [intOf]; omega
      · have hjn : j = n := by omega
        have HE : Hid ((xs.countP fun x => !f x) = i) := hide (by
          have h2 := HC.out
          rwa [List.take_of_length_le (by rw [HLEN.out]; omega)] at h2)
        have hin : i < n := by omega
        have hcl : ∀ ty d, (Builtin.clear_ #[28] ty #[.slice (some ⟨g, i, none⟩) (n - i) d]).run Tryd.prog wr = .ok (.tuple #[]) (wr.setCells g i (List.replicate (n - i) (.int .i64 0))) :=
          fun ty d => Lib.run_clear_slice wr 28 3 ty (.int .i64 0) Tryd.underlying28 zeroInt rfl rfl g i (n - i) d (by omega) (fun t ht => by rw [HO.out.cell (by omega)]; rfl) (fun t ht => HO.out.frozen _)
        have HGN := hide (grownBy_setCells g (List.replicate (n - i) (.int .i64 0)) i _ _ HG.out)
        clear HC HY ho hg
        go_wp2_with (simp only [hcl])
        go_ret
        rw [HE.out]
        exact ⟨rfl, HGN.out⟩
end Go.Proofs.YtgjblcfcbohjdaaDoor
