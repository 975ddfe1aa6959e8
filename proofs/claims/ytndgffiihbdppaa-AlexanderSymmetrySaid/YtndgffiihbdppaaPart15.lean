/- Several texts in one. -/
import Derived.Test.YtndgffiihbdppaaPart14
import Derived.Test.YtndgffiihbdppaaPart1
import Derived.Test.YtndgffiihbdppaaPart2
import Derived.Test.YtndgffiihbdppaaPart6
import Derived.Test.YtndgffiihbdppaaBase1
import Derived.Lib.SliceRun
import Derived.Laws.EntriesVeiled
/- Package alexander: determinant. -/
namespace Go.Proofs.Ytndgffiihbdppaa
set_option linter.unusedVariables false
set_option linter.unusedSimpArgs false
open Go.RowKit

set_option maxRecDepth 100000 in
set_option maxHeartbeats 8000000 in
theorem aldet_any (F : PolyC) (A : Option Addr) (n c : Nat) (pss : List (List Po)) (w : World) (ha : SPP w A n c pss) (h5 : n ≤ 5) (hrow : ∀ r ∈ pss, r.length = n ∧ ∀ p ∈ r, elA p) (hce : CE (detR n (pmM pss (colL n))) 20 100000000) :
    Calls Try.prog 56 #[.slice A n c] w (GivesP w (LP.canon (detR n (pmM pss (colL n)))).1 (LP.canon (detR n (pmM pss (colL n)))).2) := by
  have HLEN := hide ha.len
  have hns := ha.small
  have HW : Hid (Below w.heap.size w (w.alloc (.cells #[.int .i64 0, .slice none 0 0] 36))) := hide ((Below.refl _ _).alloc (Nat.le_refl _) _)
  have HBK : Hid (Blk (w.alloc (.cells #[.int .i64 0, .slice none 0 0] 36)) w.heap.size 36 #[.int .i64 0, .slice none 0 0]) := hide (Blk.new _ _ _)
  have HA := hide (ha.below HW.out)
  have HROW := hide hrow
  have HCE := hide hce
  have HF := hide F
  obtain ⟨D, hD⟩ : ∃ D, detR n (pmM pss (colL n)) = D := ⟨_, rfl⟩
  rw [hD] at HCE ⊢
  have HD := hide hD
  clear ha hrow hce F hD
  obtain ⟨i0, hi0, hz0, hz1, hz2⟩ := info_parts int_info
  go_enter Try.func56, Try.ntmps56
  go_upto_region 1 with fail
  obtain ⟨b2, hb2⟩ : ∃ b, w.heap.size = b := ⟨_, rfl⟩
  obtain ⟨w1, hw1⟩ : ∃ x, w.alloc (.cells #[.int .i64 0, .slice none 0 0] 36) = x := ⟨_, rfl⟩
  rw [hw1] at HW HBK HA ⊢
  rw [hb2] at HBK ⊢
  have HWB : Hid (w.heap.size ≤ b2) := hide (by omega)
  clear hw1 hb2
  go_wp2_with fail
  go_loopw [3, 10] (fun cv iv wx => ∃ (k : Nat) (C : Option Addr) (cc : Nat), k ≤ n ∧ iv = .int .i64 k ∧ cv = .slice C k cc ∧ Hid (OwnI wx w1.heap.size C k cc (colL k)) ∧ Hid (Below w1.heap.size w1 wx)) (fun _ iv _ => n - (intOf iv).toNat)
  case atStart => exact ⟨0, none, 0, Nat.zero_le _, rfl, rfl, hide (OwnI.nil_ _ _), hide (Below.refl _ _)⟩
  case round =>
    obtain ⟨k, C, cc, hk, rfl, rfl, HO, HW1⟩ := hrel
    by_cases hkn : k < n
    · have HS := hide (colL_succ k)
      have hszw := HW1.out.size
      have hok := HO.out
      go_wp2_with (first | (at_builtin; refine wpList_append_int _ rfl (.tmp 13) (.tmp 15) 22 rfl w1.heap.size i0 Try.underlying22 hi0 hz0 hz1 hz2 C k cc (colL k) rfl (hok.alloc _) (some ⟨wr.heap.size, 0, none⟩) 1 1 [(k : Int)] rfl (IL.lit wr [(k : Int)] (by simp) rfl rfl) (by omega) (Nat.le_trans hszw (by simp)) ?_; intro A9 c9 w9 happ))
      have ho := happ.own
      rw [← HS.out] at ho
      have HO9 := hide ho
      have hlies : ∀ g, (Value.slice C k cc).ownBlock = some g → w1.heap.size ≤ g := fun g hg => (hok.lt g hg).1
      have HW9 : Hid (Below w1.heap.size w1 w9) := hide ((HW1.out.alloc hszw _).grown happ.grown (Nat.le_trans hszw (by simp)) (fun g hg => hlies g (by rw [ownBlock_len C k (k + 1) cc cc]; exact hg)))
      clear happ ho hlies hok HO HW1
      go_wp2_with fail
      go_roundw
      case rel => exact ⟨k + 1, A9, c9, by omega, by go_num, rfl, HO9, HW9⟩
      case measure => simp [intOf]; omega
    · have hke : k = n := by omega
      subst hke
      have hl2 := HBK.out.lt
      replace HA := hide (HA.out.below HW1.out)
      replace HW := hide (HW.out.trans (HW1.out.mono HW.out.size))
      replace HBK := hide (HBK.out.below HW1.out hl2)
      have HC := hide HO.out.sl
      rename World => w2
      have hb : Below w2.heap.size w2 (w2.alloc (.cells #[.int .i64 0, .slice none 0 0] 36)) := (Below.refl _ _).alloc (Nat.le_refl _) _
      have B5 := hide (Blk.new w2 36 #[.int .i64 0, .slice none 0 0])
      have hl22 := HBK.out.lt
      replace HA := hide (HA.out.below hb)
      replace HW := hide (HW.out.trans (hb.mono HW.out.size))
      replace HBK := hide (HBK.out.below hb hl22)
      replace HC := hide (HC.out.below hb)
      clear HO HW1 hb hl2
      go_upto_region 8 with fail
      obtain ⟨b5, hb5⟩ : ∃ b, w2.heap.size = b := ⟨_, rfl⟩
      obtain ⟨w3, hw3⟩ : ∃ x, w2.alloc (.cells #[.int .i64 0, .slice none 0 0] 36) = x := ⟨_, rfl⟩
      rw [hw3] at HA HW HBK HC B5 ⊢
      rw [hb5] at B5 hl22 ⊢
      have h25 : b2 ≠ b5 := by omega
      have HWB5 : Hid (w.heap.size ≤ b5) := hide (by have := HWB.out; omega)
      clear hw3 hb5 hl22
      go_wp2_with fail
      refine (alExp_any k k A c pss C cc (colL k) _ HA.out HC.out h5 HROW.out (fun x hx => colL_mem hx)).mono ?_
      rintro e w4 ⟨R, d, ys, rfl, hown, hlp, hb⟩
      rw [HD.out] at hlp
      obtain ⟨L, hL⟩ : ∃ L : Nat, 40 * k + 1 = L := ⟨_, rfl⟩
      rw [hL] at hown ⊢
      have hyl : ys.length = L := by have := hown.len; simpa using this
      have hL300 : L ≤ 300 := by omega
      have hym : ys.map wr64 = ys := map_wr64 fun y hy => by
        obtain ⟨j, hj, rfl⟩ := List.mem_iff_getElem.1 hy
        have h1 := (CE.at_ (b := -20 * (k : Int)) (ys := ys) (by rw [hlp]; exact HCE.out) hj).1
        rw [show ys.getD j 0 = ys[j] by simp [List.getD, List.getElem?_eq_getElem hj]] at h1
        omega
      rw [hym] at hown
      have HR := hide hown.sl
      have hl2 := HBK.out.lt
      have hl5 := B5.out.lt
      replace HW := hide (HW.out.trans (hb.mono HW.out.size))
      replace HBK := hide (HBK.out.below hb hl2)
      replace B5 := hide (B5.out.below hb hl5)
      have hRf : ∀ ad, R = some ad → ad.block ≠ b5 ∧ ad.block ≠ b2 := fun ad e => by
        have hown2 := hown.own.2
        rcases hown2 with ⟨hv, h0⟩ | ⟨g', cap, cur, hv, hg', _⟩
        · omega
        · injection hv with hv
          rw [e] at hv
          injection hv with hv
          rw [hv]
          show g' ≠ b5 ∧ g' ≠ b2
          omega
      have HRF := hide hRf
      obtain ⟨f, hf⟩ : ∃ f : Nat → LP, (fun i => LP.of (-20 * (k : Int)) (ys.take i)) = f := ⟨_, rfl⟩
      have hfe : ∀ i, LP.of (-20 * (k : Int)) (ys.take i) = f i := fun i => congrFun hf i
      have hce : CE (LP.of (-20 * (k : Int)) ys) 20 100000000 := by rw [hlp]; exact HCE.out
      have hf0 : LP.canon (f 0) = (0, []) := by rw [← hfe]; exact LP.canon_zero
      have hfL : f L = D := by rw [← hfe, List.take_of_length_le (by omega)]; exact hlp
      have HADD : Hid (∀ i, i < L → ys.getD i 0 ≠ 0 → ∀ (w : World) (P : Option Addr) (pn pc : Nat) (Q : Option Addr) (qn qc : Nat), SL w P pn pc (LP.canon (f i)).2 → SL w Q qn qc [ys.getD i 0] →
          Calls Try.prog 80 #[PV (LP.canon (f i)).1 P pn pc, PV ((i : Int) - (k : Int) * 20) Q qn qc] w (GivesPE w (0, (LP.canon (f (i + 1))).1, (LP.canon (f (i + 1))).2))) := hide (fun i hi h0 w P pn pc Q qn qc s1 s2 => by
        have h := HF.out.add (LP.canon (f i)).1 P pn pc _ ((i : Int) - (k : Int) * 20) Q qn qc _ w s1 s2 (by rw [← hfe]; exact LP.Rt.wf ((hce.take_ i).rt (by omega) (Nat.le_refl _))) (wfI (by omega))
        rw [← hfe, ← hfe, show (i : Int) - (k : Int) * 20 = -20 * (k : Int) + i by omega] at *
        rw [canon_more hce (by omega) h0] at h
        exact h)
      have HSAME : Hid (∀ i, i < L → ys.getD i 0 = 0 → f (i + 1) = f i) := hide (fun i hi h0 => by rw [← hfe, ← hfe]; exact canon_same (by omega) h0)
      have HYB : Hid (∀ i, i < L → (ys.getD i 0).natAbs ≤ 100000000) := hide (fun i hi => (hce.at_ (by omega)).1)
      have SP : Hid (SL w4 none 0 0 (LP.canon (f 0)).2) := hide (by rw [hf0]; exact SL.nil_ _)
      replace B5 : Hid (Blk w4 b5 36 #[.int .i64 (LP.canon (f 0)).1, .slice none 0 0]) := hide (by rw [hf0]; exact B5.out)
      have HFL := hide hfL
      clear hown hlp hb hyl hym HC HA HROW HCE HF HD hRf hf hfe hce hf0 hfL hl2 hl5 hi0 hz0 hz1 hz2 hL HLEN
      go_wp2_with fail
      go_loopw [22] (fun iv wx => ∃ (i : Nat) (P : Option Addr) (pn pc : Nat), iv = .int .i64 i ∧ i ≤ L ∧ Hid (Blk wx b2 36 #[.int .i64 0, .slice none 0 0]) ∧ Hid (Blk wx b5 36 #[.int .i64 (LP.canon (f i)).1, .slice P pn pc]) ∧ Hid (SL wx P pn pc (LP.canon (f i)).2) ∧ Hid (0 < pn → ∀ ad, P = some ad → b2 < ad.block ∧ b5 < ad.block) ∧ Hid (SL wx R L d ys) ∧ Hid (Below w.heap.size w wx)) (fun iv _ => L - (intOf iv).toNat)
      case atStart => exact ⟨0, none, 0, 0, rfl, Nat.zero_le _, HBK, B5, SP, hide (fun h => absurd h (by omega)), HR, HW⟩
      case round =>
        clear HBK B5 SP HR HW
        obtain ⟨i, P, pn, pc, rfl, hi, HBK, B5, SP, HN, HR, HW⟩ := hrel
        by_cases hlt : i < L
        · obtain ⟨ad, rfl, hc⟩ := HR.out.il.at_ hlt
          have HSM := hide (HSAME.out i hlt)
          have HAD := hide (HADD.out i hlt)
          have hyb := HYB.out i hlt
          obtain ⟨y, hy⟩ : ∃ y, ys.getD i 0 = y := ⟨_, rfl⟩
          rw [hy] at hc HSM HAD hyb
          clear hy
          by_cases hy0 : y = 0
          · have hz : (y != 0) = false := by simp [hy0]
            have HS2 := hide (HSM.out hy0)
            rw [← HS2.out] at B5 SP
            clear hy0 HSM HAD HS2
            go_wp2_with fail
            go_roundw
            case rel => exact ⟨i + 1, P, pn, pc, by go_num, by omega, HBK, B5, SP, HN, HR, HW⟩
            case measure => simp [intOf]; omega
          · have hz : (y != 0) = true := by simpa using hy0
            have hal : Below wr.heap.size wr (wr.alloc (.cells #[.int .i64 y] 3)) := (Below.refl _ _).alloc (Nat.le_refl _) _
            have HLT := hide (SL.lit wr [y] (by simp) (cs := #[.int .i64 y]) rfl (m := 1) rfl)
            have HAD2 := hide (HAD.out hy0 _ P pn pc (some ⟨wr.heap.size, 0, none⟩) 1 1 (SP.out.below hal) HLT.out)
            have hl2 := HBK.out.lt
            have hl5 := B5.out.lt
            have c0 := B5.out.cell 0
            have c1 := B5.out.cell 1
            simp at c0 c1
            have hw20 : IntKind.i64.wrap ((k : Int) * 20) = (k : Int) * 20 := by rw [IntKind.wrap_i64]; omega
            have hwi : IntKind.i64.wrap ((i : Int) - (k : Int) * 20) = (i : Int) - (k : Int) * 20 := by rw [IntKind.wrap_i64]; omega
            have HLI := hide hlt
            clear hy0 HSM HAD hlt hi
            go_wp2_with fail
            refine HAD2.out.mono ?_
            rintro e w7 ⟨P', pn', pc', rfl, hs, hnw, hb⟩
            dsimp only at hs ⊢
            have hb2 := hal.trans (hb.mono hal.size)
            have hsz := hal.size
            have HN2 : Hid (0 < pn' → ∀ ad, P' = some ad → b2 < ad.block ∧ b5 < ad.block) := hide (fun h ad e => by have := hnw h ad e; omega)
            replace HBK := hide (HBK.out.below hb2 hl2)
            replace B5 := hide (B5.out.below hb2 hl5)
            replace HR := hide (HR.out.below hb2)
            replace HW := hide (HW.out.trans (hb2.mono HW.out.size))
            have f6 : 0 < pn' → ∀ ad, P' = some ad → ad.block ≠ b5 := fun h ad e => by have := HN2.out h ad e; omega
            have SP2 := hide ((hs.setCell f6 0 (.int .i64 (LP.canon (f (i + 1))).1)).setCell f6 1 (.slice P' pn' pc'))
            have hRn : 0 < L → ∀ a, some ad = some a → a.block ≠ b5 := fun _ a e => (HRF.out a e).1
            have HR2 := hide ((HR.out.setCell hRn 0 (.int .i64 (LP.canon (f (i + 1))).1)).setCell hRn 1 (.slice P' pn' pc'))
            have HBK2 := hide ((HBK.out.far (p := ⟨b5, 0, none⟩) h25 (.int .i64 (LP.canon (f (i + 1))).1)).far (p := ⟨b5, 1, none⟩) h25 (.slice P' pn' pc'))
            have B52 : Hid (Blk ((w7.setCell ⟨b5, 0, none⟩ (.int .i64 (LP.canon (f (i + 1))).1)).setCell ⟨b5, 1, none⟩ (.slice P' pn' pc')) b5 36 #[.int .i64 (LP.canon (f (i + 1))).1, .slice P' pn' pc']) := hide ((B5.out.set_ 0 (.int .i64 (LP.canon (f (i + 1))).1)).set_ 1 (.slice P' pn' pc'))
            have HW2 := hide ((HW.out.setCell (p := ⟨b5, 0, none⟩) HWB5.out (.int .i64 (LP.canon (f (i + 1))).1)).setCell (p := ⟨b5, 1, none⟩) HWB5.out (.slice P' pn' pc'))
            have e0 := B5.out.cell 0
            have e1 := B5.out.cell 1
            have g0 := B5.out.frozen 0
            have g1 := B5.out.frozen 1
            simp at e0 e1
            have l53 := B5.out.lt
            have hlt := HLI.out
            clear hs hnw hb hb2 hal c0 c1 HLT HAD2 hl2 hl5 f6 hRn HBK B5 HW HN HR SP hsz
            go_wp2_with fail
            go_roundw
            case rel => exact ⟨i + 1, P', pn', pc', by go_num, by omega, HBK2, B52, SP2, HN2, HR2, HW2⟩
            case measure => simp [intOf]; omega
        · have hiL : i = L := by omega
          subst hiL
          have HFD := HFL
          have c0 := B5.out.cell 0
          have c1 := B5.out.cell 1
          have c2 := HBK.out.cell 0
          have c3 := HBK.out.cell 1
          have f2 := HBK.out.frozen 0
          have f3 := HBK.out.frozen 1
          simp at c0 c1 c2 c3
          have l6 := HBK.out.lt
          have HF2 : Hid (0 < pn → ∀ ad, P = some ad → ad.block ≠ b2) := hide (fun h ad e => by have := HN.out h ad e; omega)
          clear hi hlt
          go_wp2_with fail
          refine bodyPost_ret (results_poly rfl _ rfl ((HBK.out.set_ 0 (.int .i64 (LP.canon (f i)).1)).set_ 1 (.slice P pn pc))) rfl ?_
          rw [← HFD.out]
          refine ⟨P, pn, pc, rfl, (SP.out.setCell HF2.out 0 _).setCell HF2.out 1 _, fun h ad e => by have := HN.out h ad e; have := HWB.out; omega, ?_⟩
          exact (HW.out.setCell (p := ⟨b2, 0, none⟩) HWB.out _).setCell (p := ⟨b2, 1, none⟩) HWB.out _
end Go.Proofs.Ytndgffiihbdppaa
/- slices.IndexFunc and slices.DeleteFunc of integers, with a function that only answers. -/
namespace Go.Proofs.Ytndgffiihbdppaa
set_option linter.unusedVariables false
set_option linter.unusedSimpArgs false
open Go.RowKit

set_option maxRecDepth 100000 in
set_option maxHeartbeats 2000000 in
theorem intIndex_any {fid : FuncId} {caps : List Value} (f : Int → Bool) (hfid : ∀ args w, (callFunc fid args).run Try.prog w = .ok (.enter fid args) w) (A : Option Addr) (n c : Nat) (xs : List Int) (w : World) (ha : IL w A n xs)
    (hf : ∀ x w, Calls Try.prog fid (.int .i64 x :: caps).toArray w fun e w' => e = .returned (.bool (f x)) ∧ w = w') :
    Calls Try.prog 96 #[.slice A n c, .func (.func fid) #[] caps.toArray] w fun e w' => ((e = .returned (.int .i64 (-1)) ∧ ∀ j, j < n → f (xs.getD j 0) = false) ∨ ∃ k : Nat, e = .returned (.int .i64 k) ∧ k < n ∧ f (xs.getD k 0) = true ∧ ∀ j, j < k → f (xs.getD j 0) = false) ∧ w = w' := by
  have hs := ha.small
  have HA := hide ha
  have HF := hide hf
  clear ha hf
  go_enter Try.func96, Try.ntmps96
  go_wp2
  go_loop [8] (fun i => ∃ k : Nat, k ≤ n ∧ i = .int .i64 k ∧ Hid (∀ j, j < k → f (xs.getD j 0) = false)) (fun i => n - (intOf i).toNat)
  case atStart => exact ⟨0, Nat.zero_le _, rfl, hide (fun j hj => absurd hj (by omega))⟩
  case round =>
    obtain ⟨k, hk, rfl, HN⟩ := hrel
    by_cases hlt : k < n
    · obtain ⟨ad, rfl, hc⟩ := HA.out.at_ hlt
      have HC := hide (HF.out (xs.getD k 0) w)
      by_cases hfk : f (xs.getD k 0) = true
      · have HY := hide hfk
        rw [hfk] at HC
        clear hfk
        go_wp2_with fail
        refine HC.out.mono ?_
        rintro e w1 ⟨rfl, rfl⟩
        go_wp2_with fail
        go_ret
        exact ⟨.inr ⟨k, rfl, hlt, HY.out, HN.out⟩, rfl⟩
      · have hfk' : f (xs.getD k 0) = false := by simpa using hfk
        have HN2 : Hid (∀ j, j < k + 1 → f (xs.getD j 0) = false) := hide (fun j hj => by
          by_cases e : j = k
          · rw [e]; exact hfk'
          · exact HN.out j (by omega))
        rw [hfk'] at HC
        clear hfk hfk'
        go_wp2_with fail
        refine HC.out.mono ?_
        rintro e w1 ⟨rfl, rfl⟩
        go_wp2_with fail
        go_round
        case rel => exact ⟨k + 1, by omega, by go_num, HN2⟩
        case measure => simp [intOf]; omega
    · go_wp2_with fail
      go_ret
      exact ⟨.inl ⟨rfl, fun j hj => HN.out j (by omega)⟩, rfl⟩
theorem eIntIx : ∀ args w, (callFunc 96 args).run Try.prog w = .ok (.enter 96 args) w := enters (fn := Try.f96) (by kernel_rfl) (by kernel_rfl) (by kernel_rfl)
end Go.Proofs.Ytndgffiihbdppaa
/- Package laurent: Check and small functions. -/
namespace Go.Proofs.Ytndgffiihbdppaa
set_option linter.unusedVariables false
set_option linter.unusedSimpArgs false
open Go.RowKit

theorem eLarge : ∀ args w, (callFunc 77 args).run Try.prog w = .ok (.enter 77 args) w := enters (fn := Try.f77) (by kernel_rfl) (by kernel_rfl) (by kernel_rfl)
set_option maxRecDepth 100000 in
set_option maxHeartbeats 2000000 in
theorem large_any (x : Int) (w : World) :
    Calls Try.prog 77 #[.int .i64 x] w fun e w' => e = .returned (.bool (!LP.okC x)) ∧ w = w' := by
  by_cases h1 : x < -100000000
  · have HR : Hid ((!LP.okC x) = true) := hide (by unfold LP.okC; simp; omega)
    go_enter Try.func77, Try.ntmps77
    go_wp2_with fail
    go_ret
    rw [HR.out]
    exact ⟨rfl, rfl⟩
  by_cases h2 : 100000000 < x
  · have HR : Hid ((!LP.okC x) = true) := hide (by unfold LP.okC; simp; omega)
    go_enter Try.func77, Try.ntmps77
    go_wp2_with fail
    go_ret
    rw [HR.out]
    exact ⟨rfl, rfl⟩
  · have HR : Hid ((!LP.okC x) = false) := hide (by unfold LP.okC; simp; omega)
    go_enter Try.func77, Try.ntmps77
    go_wp2_with fail
    go_ret
    rw [HR.out]
    exact ⟨rfl, rfl⟩

set_option maxRecDepth 100000 in
set_option maxHeartbeats 2000000 in
/-- slices.ContainsFunc of integers, with a function that only answers. -/
theorem containsI_any {fid : FuncId} {caps : List Value} (f : Int → Bool) (hfid : ∀ args w, (callFunc fid args).run Try.prog w = .ok (.enter fid args) w) (A : Option Addr) (n c : Nat) (xs : List Int) (w : World) (ha : IL w A n xs)
    (hf : ∀ x w, Calls Try.prog fid (.int .i64 x :: caps).toArray w fun e w' => e = .returned (.bool (f x)) ∧ w = w') :
    Calls Try.prog 76 #[.slice A n c, .func (.func fid) #[] caps.toArray] w fun e w' => e = .returned (.bool (xs.any f)) ∧ w = w' := by
  have HL := hide ha.len
  have HI := hide (intIndex_any (caps := caps) f hfid A n c xs w ha hf)
  have e1 := eIntIx
  clear ha hf
  go_enter Try.func76, Try.ntmps76
  go_wp2_with fail
  refine HI.out.mono ?_
  rintro e w1 ⟨h | h, rfl⟩
  · obtain ⟨rfl, h⟩ := h
    have HB : Hid (xs.any f = false) := hide (by
      rw [List.any_eq_false]
      intro x hx
      obtain ⟨j, hj, rfl⟩ := List.mem_iff_getElem.1 hx
      have := h j (by rw [← HL.out]; exact hj)
      rw [show xs.getD j 0 = xs[j] by simp [List.getD, List.getElem?_eq_getElem hj]] at this
      simp [this])
    clear HI h
    go_wp2_with fail
    go_ret
    rw [HB.out]
    exact ⟨rfl, rfl⟩
  · obtain ⟨k, rfl, hk, hfk, _⟩ := h
    have HB : Hid (xs.any f = true) := hide (by
      rw [List.any_eq_true]
      have hj : k < xs.length := by rw [HL.out]; exact hk
      rw [show xs.getD k 0 = xs[k] by simp [List.getD, List.getElem?_eq_getElem hj]] at hfk
      exact ⟨xs[k], List.getElem_mem _, hfk⟩)
    clear HI hfk
    go_wp2_with fail
    go_ret
    rw [HB.out]
    exact ⟨rfl, rfl⟩
theorem eContI : ∀ args w, (callFunc 76 args).run Try.prog w = .ok (.enter 76 args) w := enters (fn := Try.f76) (by kernel_rfl) (by kernel_rfl) (by kernel_rfl)
theorem LP.any_large (xs : List Int) : (xs.any fun x => !okC x) = !xs.all okC := by rw [List.not_all_eq_any_not]

set_option maxRecDepth 100000 in
set_option maxHeartbeats 4000000 in
theorem lcheck_any (la : Int) (A : Option Addr) (n c : Nat) (xs : List Int) (w : World) (ha : SL w A n c xs) :
    Calls Try.prog 53 #[PV la A n c] w fun e w' => e = .returned (.int .i64 (LP.pfl la xs)) ∧ Below w.heap.size w w' := by
  have hl := ha.il.len
  have hns := ha.il.small
  have hb0 : Below w.heap.size w (w.alloc (.cells #[.int .i64 la, .slice A n c] 36)) := (Below.refl _ _).alloc (Nat.le_refl _) _
  have HW := hide hb0
  have HA := hide (ha.below hb0)
  have hb1 := Blk.new w 36 #[.int .i64 la, .slice A n c]
  obtain ⟨w0, hw0⟩ : ∃ x, w.alloc (.cells #[.int .i64 la, .slice A n c] 36) = x := ⟨_, rfl⟩
  have HW0 := hide hw0
  rw [hw0] at HW HA hb1
  have B0 := hide hb1
  have hq0 := hb1.cell 0
  have hq1 := hb1.cell 1
  simp at hq0 hq1
  by_cases hbig : 200 < n ∨ 1000 < la ∨ la < -1000
  · have HP := hide (LP.pfl_big (lo := la) (xs := xs) (by omega))
    clear ha hl hb0 hb1
    by_cases h1 : 200 < n
    · go_enter Try.func53, Try.ntmps53
      go_upto_region 2 with fail
      clear hw0
      go_wp2_with fail
      go_ret
      rw [HP.out]
      exact ⟨rfl, HW.out⟩
    by_cases h2 : la < -1000
    · go_enter Try.func53, Try.ntmps53
      go_upto_region 2 with fail
      clear hw0
      go_wp2_with fail
      go_ret
      rw [HP.out]
      exact ⟨rfl, HW.out⟩
    · have h3 : 1000 < la := by omega
      go_enter Try.func53, Try.ntmps53
      go_upto_region 2 with fail
      clear hw0
      go_wp2_with fail
      go_ret
      rw [HP.out]
      exact ⟨rfl, HW.out⟩
  have hN : ¬ (200 < xs.length ∨ 1000 < la ∨ la < -1000) := by omega
  have h1 : n ≤ 200 := by omega
  have h2 : la ≤ 1000 := by omega
  have h3 : -1000 ≤ la := by omega
  have HCN := hide (containsI_any (fid := 77) (caps := []) (fun x => !LP.okC x) eLarge A n c xs w0 HA.out.il (fun x w => large_any x w))
  rw [LP.any_large] at HCN
  have ec := eContI
  by_cases h4 : n = 0
  · by_cases h5 : la = 0
    · have HP := hide (LP.pfl_loop hN (by omega))
      have hx : xs = [] := List.eq_nil_of_length_eq_zero (by omega)
      have HP2 : Hid (LP.pfl la xs = 0) := hide (by rw [HP.out, hx]; rfl)
      have HAL : Hid ((!xs.all LP.okC) = false) := hide (by rw [hx]; rfl)
      rw [HAL.out] at HCN
      clear ha hl hb0 hb1 HP hx HA hN HAL
      subst h4 h5
      go_enter Try.func53, Try.ntmps53
      go_upto_region 2 with fail
      clear hw0
      go_wp2_with fail
      refine HCN.out.mono ?_
      rintro e w1 ⟨rfl, rfl⟩
      go_wp2_with fail
      go_ret
      rw [HP2.out]
      exact ⟨rfl, HW.out⟩
    · have HP := hide (LP.pfl_bad hN (by omega))
      have hb : (la != 0) = true := by simpa using h5
      clear ha hl hb0 hb1 HA hN h5
      subst h4
      go_enter Try.func53, Try.ntmps53
      go_upto_region 2 with fail
      clear hw0
      go_wp2_with fail
      go_ret
      rw [HP.out]
      exact ⟨rfl, HW.out⟩
  · have b4 : ((n : Int) == 0) = false := by simp; omega
    have b5 : decide ((0 : Int) < n) = true := by simp; omega
    have hpos : 0 < n := by omega
    obtain ⟨ad, hA, hal, hac⟩ := HA.out.il.mem hpos
    subst hA
    have c0 := hac 0 hpos
    have cl := hac (n - 1) (by omega)
    obtain ⟨x0, hx0⟩ : ∃ x, xs.getD 0 0 = x := ⟨_, rfl⟩
    obtain ⟨xl, hxl⟩ : ∃ x, xs.getD (n - 1) 0 = x := ⟨_, rfl⟩
    rw [hx0] at c0
    have c0 : w0.cell? ad = some (.int .i64 x0) := by
      have e : ad.add 0 = ad := by cases ad; simp [Addr.add]
      rw [e] at c0; exact c0
    rw [hxl] at cl
    have hw1 : IntKind.i64.wrap ((n : Int) - 1) = ((n - 1 : Nat) : Int) := by rw [IntKind.wrap_i64]; omega
    obtain ⟨k1, hk1⟩ : ∃ k, n - 1 = k := ⟨_, rfl⟩
    rw [hk1] at cl hw1 hxl
    have hkn : k1 < n := by omega
    clear hb0 hb1 hac
    by_cases h6 : x0 = 0
    · have HP := hide (LP.pfl_bad hN (.inr ⟨by omega, .inl (by rw [hx0]; exact h6)⟩))
      subst h6
      clear ha hl hN hk1 cl hw1 hxl hkn hx0 HCN
      go_enter Try.func53, Try.ntmps53
      go_upto_region 2 with fail
      clear hw0
      go_wp2_with fail
      go_ret
      rw [HP.out]
      exact ⟨rfl, HW.out⟩
    have b6 : (x0 == 0) = false := by simpa using h6
    by_cases h7 : xl = 0
    · have HP := hide (LP.pfl_bad hN (.inr ⟨by omega, .inr (by rw [hl, hk1, hxl]; exact h7)⟩))
      subst h7
      clear ha hl hN hk1 hxl hx0 h6 HCN
      go_enter Try.func53, Try.ntmps53
      go_upto_region 2 with fail
      clear hw0
      go_wp2_with fail
      go_ret
      rw [HP.out]
      exact ⟨rfl, HW.out⟩
    have b7 : (xl == 0) = false := by simpa using h7
    have HP := hide (LP.pfl_loop hN (by rw [hx0, hl, hk1, hxl]; omega))
    clear ha hl hN hk1 hxl hx0 h6 h7
    obtain ⟨q, hq⟩ : ∃ q, xs.all LP.okC = q := ⟨_, rfl⟩
    rw [hq] at HP HCN
    clear hq
    go_enter Try.func53, Try.ntmps53
    go_upto_region 2 with fail
    clear hw0
    go_upto_region 6 with fail
    go_wp2_with fail
    refine HCN.out.mono ?_
    rintro e w1 ⟨rfl, rfl⟩
    cases q
    · go_wp2_with fail
      go_ret
      rw [HP.out]
      exact ⟨rfl, HW.out⟩
    · go_wp2_with fail
      go_ret
      rw [HP.out]
      exact ⟨rfl, HW.out⟩
end Go.Proofs.Ytndgffiihbdppaa
/- Package laurent: the end of a polynomial, its coefficients as a function, both checks, what is accepted. -/
namespace Go.Proofs.Ytndgffiihbdppaa
set_option linter.unusedVariables false
set_option linter.unusedSimpArgs false
open Go.RowKit

set_option maxRecDepth 100000 in
set_option maxHeartbeats 2000000 in
theorem endOf_any (la : Int) (A : Option Addr) (n c : Nat) (w : World) (h1 : la.natAbs ≤ 1000000) (h2 : n ≤ 1000000) :
    Calls Try.prog 61 #[PV la A n c] w fun e w' => e = .returned (.int .i64 (la + n)) ∧ w' = w.alloc (.cells #[.int .i64 la, .slice A n c] 36) := by
  have hw : IntKind.i64.wrap (la + (n : Int)) = la + n := by rw [IntKind.wrap_i64]; omega
  have hb1 := Blk.new w 36 #[.int .i64 la, .slice A n c]
  obtain ⟨w0, hw0⟩ : ∃ x, w.alloc (.cells #[.int .i64 la, .slice A n c] 36) = x := ⟨_, rfl⟩
  rw [hw0] at hb1
  have hq0 := hb1.cell 0
  have hq1 := hb1.cell 1
  simp at hq0 hq1
  clear hb1
  have HW0 := hide hw0
  go_enter Try.func61, Try.ntmps61
  go_upto_region 1 with fail
  clear hw0
  go_wp2_with fail
  go_ret
  exact ⟨rfl, HW0.out.symm⟩
theorem eEndOf : ∀ args w, (callFunc 61 args).run Try.prog w = .ok (.enter 61 args) w := enters (fn := Try.f61) (by kernel_rfl) (by kernel_rfl) (by kernel_rfl)

set_option maxRecDepth 100000 in
set_option maxHeartbeats 2000000 in
theorem coefficients_any (la : Int) (A : Option Addr) (n c : Nat) (w : World) :
    Calls Try.prog 59 #[PV la A n c] w fun e w' => e = .returned (.func (.func 84) #[] #[.pointer (some ⟨w.heap.size, 0, none⟩)]) ∧ w' = w.alloc (.cells #[.int .i64 la, .slice A n c] 36) := by
  have hmf : ∀ (fn : Fn) (first cap : Array Value) (w : World), (Instr.makeFunc fn first cap).run Try.prog w = .ok (.func fn first cap) w := fun _ _ _ _ => rfl
  go_enter Try.func59, Try.ntmps59
  go_wp2_with fail
  go_ret
  exact ⟨rfl, rfl⟩
theorem eCoeffs : ∀ args w, (callFunc 59 args).run Try.prog w = .ok (.enter 59 args) w := enters (fn := Try.f59) (by kernel_rfl) (by kernel_rfl) (by kernel_rfl)
theorem eCoeff : ∀ args w, (callFunc 84 args).run Try.prog w = .ok (.enter 84 args) w := enters (fn := Try.f84) (by kernel_rfl) (by kernel_rfl) (by kernel_rfl)

set_option maxRecDepth 100000 in
set_option maxHeartbeats 2000000 in
theorem coeff_any (la : Int) (A : Option Addr) (n c : Nat) (xs : List Int) (b : Nat) (x : Int) (w : World) (ha : SL w A n c xs) (hb : Blk w b 36 #[.int .i64 la, .slice A n c]) (h1 : la.natAbs ≤ 1000000) (h2 : n ≤ 1000000) (h3 : x.natAbs ≤ 100000000) :
    Calls Try.prog 84 #[.int .i64 x, .pointer (some ⟨b, 0, none⟩)] w fun e w' => e = .returned (.int .i64 (LP.co (LP.of la xs) x)) ∧ Below w.heap.size w w' := by
  have hl := ha.il.len
  have HC : Hid (LP.co (LP.of la xs) x = if la ≤ x ∧ x < la + n then xs.getD (x - la).toNat 0 else 0) := hide (by rw [LP.co_of, hl])
  have hq0 := hb.cell 0
  have hq1 := hb.cell 1
  simp at hq0 hq1
  have HE := hide (endOf_any la A n c w h1 h2)
  have hbb : Below w.heap.size w (w.alloc (.cells #[.int .i64 la, .slice A n c] 36)) := (Below.refl _ _).alloc (Nat.le_refl _) _
  have HBB := hide hbb
  by_cases hlo : x < la
  · have HR : Hid (LP.co (LP.of la xs) x = 0) := hide (by rw [HC.out, if_neg (by omega)])
    have HB0 := hide (Below.refl w.heap.size w)
    clear ha hb HE hbb HBB HC
    go_enter Try.func84, Try.ntmps84
    go_wp2_with fail
    go_ret
    rw [HR.out]
    exact ⟨rfl, HB0.out⟩
  by_cases hhi : la + n ≤ x
  · have HR : Hid (LP.co (LP.of la xs) x = 0) := hide (by rw [HC.out, if_neg (by omega)])
    clear ha hb hbb HC
    go_enter Try.func84, Try.ntmps84
    go_wp2_with fail
    refine HE.out.mono ?_
    rintro e w1 ⟨rfl, rfl⟩
    have HBB1 := hide HBB.out
    clear HBB hq0 hq1
    generalize w.alloc (.cells #[.int .i64 la, .slice A n c] 36) = w1 at *
    go_wp2_with fail
    go_ret
    rw [HR.out]
    exact ⟨rfl, HBB1.out⟩
  · obtain ⟨k, hk⟩ : ∃ k : Nat, x = la + k := ⟨(x - la).toNat, by omega⟩
    have hkn : k < n := by omega
    have HR : Hid (LP.co (LP.of la xs) x = xs.getD k 0) := hide (by rw [HC.out, if_pos (by omega), show (x - la).toNat = k by omega])
    obtain ⟨ad, hA, hc⟩ := (ha.below hbb).il.at_ hkn
    have hq2 := (hb.below hbb hb.lt).cell 0
    have hq3 := (hb.below hbb hb.lt).cell 1
    simp at hq2 hq3
    have hw : IntKind.i64.wrap (la + (k : Int) - la) = k := by rw [IntKind.wrap_i64]; omega
    subst hA hk
    obtain ⟨y, hy⟩ : ∃ y, xs.getD k 0 = y := ⟨_, rfl⟩
    rw [hy] at hc HR
    clear hy
    have HC2 := hide hc
    have HQ2 := hide hq2
    have HQ3 := hide hq3
    clear ha hb hbb HC hc hq2 hq3
    go_enter Try.func84, Try.ntmps84
    go_wp2_with fail
    refine HE.out.mono ?_
    rintro e w1 ⟨rfl, rfl⟩
    have HBB1 := hide HBB.out
    clear HBB hq0 hq1
    have hc := HC2.out
    have hq2 := HQ2.out
    have hq3 := HQ3.out
    clear HC2 HQ2 HQ3
    generalize w.alloc (.cells #[.int .i64 la, .slice (some ad) n c] 36) = w1 at *
    go_wp2_with fail
    go_ret
    rw [HR.out]
    exact ⟨rfl, HBB1.out⟩

/-- The error of two polynomials. -/
def LP.pfl2 (la : Int) (xs : List Int) (lb : Int) (ys : List Int) : Int := if pfl la xs = 0 then pfl lb ys else pfl la xs
set_option maxRecDepth 100000 in
set_option maxHeartbeats 2000000 in
theorem checkBoth_any (la : Int) (A : Option Addr) (n c : Nat) (xs : List Int) (lb : Int) (B : Option Addr) (m d : Nat) (ys : List Int) (w : World) (ha : SL w A n c xs) (hb : SL w B m d ys) :
    Calls Try.prog 74 #[PV la A n c, PV lb B m d] w fun e w' => e = .returned (.int .i64 (LP.pfl2 la xs lb ys)) ∧ Below w.heap.size w w' := by
  have h1 : Below w.heap.size w ((w.alloc (.cells #[.int .i64 la, .slice A n c] 36)).alloc (.cells #[.int .i64 lb, .slice B m d] 36)) := ((Below.refl _ _).alloc (Nat.le_refl _) _).alloc (by simp) _
  have hB2 := Blk.new (w.alloc (.cells #[.int .i64 la, .slice A n c] 36)) 36 #[.int .i64 lb, .slice B m d]
  have HW := hide h1
  have HA := hide (lcheck_any la A n c xs _ (ha.below h1))
  have HBS := hide (hb.below h1)
  simp only [World.size_alloc] at hB2
  have HB2 := hide hB2
  clear ha hb hB2 h1
  go_enter Try.func74, Try.ntmps74
  go_upto_region 1 with fail
  obtain ⟨w0, hw0⟩ : ∃ x, ((w.alloc (.cells #[.int .i64 la, .slice A n c] 36)).alloc (.cells #[.int .i64 lb, .slice B m d] 36)) = x := ⟨_, rfl⟩
  have hB1 := (Blk.new w 36 #[.int .i64 la, .slice A n c]).alloc (.cells #[.int .i64 lb, .slice B m d] 36)
  rw [hw0] at HW HA HBS HB2 hB1 ⊢
  have hq0 := hB1.cell 0
  have hq1 := hB1.cell 1
  simp at hq0 hq1
  clear hw0 hB1
  go_wp2_with fail
  refine HA.out.mono ?_
  rintro e w1 ⟨rfl, hb⟩
  have HW1 := hide (HW.out.trans (hb.mono HW.out.size))
  have HB1 := hide (HBS.out.below hb)
  have hk := HB2.out.below hb HB2.out.lt
  have hr0 := hk.cell 0
  have hr1 := hk.cell 1
  simp at hr0 hr1
  obtain ⟨p, hp⟩ : ∃ p, LP.pfl la xs = p := ⟨_, rfl⟩
  have HP : Hid (LP.pfl2 la xs lb ys = if p = 0 then LP.pfl lb ys else p) := hide (by unfold LP.pfl2; rw [hp])
  rw [hp]
  clear hb HA HBS HB2 hq0 hq1 hk hp
  by_cases h0 : p = 0
  · subst h0
    go_wp2_with fail
    refine (lcheck_any lb B m d ys _ HB1.out).mono ?_
    rintro e w2 ⟨rfl, hb⟩
    have HW2 := hide (HW1.out.trans (hb.mono HW1.out.size))
    clear hb hr0 hr1
    go_wp2_with fail
    go_ret
    rw [HP.out, if_pos trivial]
    exact ⟨rfl, HW2.out⟩
  · have hne : (p != 0) = true := by simpa using h0
    go_wp2_with fail
    go_ret
    rw [HP.out, if_neg h0]
    exact ⟨rfl, HW1.out⟩

set_option maxRecDepth 100000 in
set_option maxHeartbeats 2000000 in
theorem accepted_any (la : Int) (A : Option Addr) (n c : Nat) (xs : List Int) (w : World) (ha : SL w A n c xs) :
    Calls Try.prog 85 #[PV la A n c] w fun e w' => ∃ B m d, e = .returned (.tuple #[PV (LP.fitL la xs).2.1 B m d, .int .i64 (LP.fitL la xs).1]) ∧ SL w' B m d (LP.fitL la xs).2.2 ∧ (0 < m → B = A ∧ m = n) ∧ Below w.heap.size w w' := by
  have hb1 := (Blk.new w 36 #[.int .i64 la, .slice A n c]).alloc (.cells #[.int .i64 0, .slice none 0 0] 36)
  have hb2 := Blk.new (w.alloc (.cells #[.int .i64 la, .slice A n c] 36)) 36 #[.int .i64 0, .slice none 0 0]
  have hbw : Below w.heap.size w ((w.alloc (.cells #[.int .i64 la, .slice A n c] 36)).alloc (.cells #[.int .i64 0, .slice none 0 0] 36)) := ((Below.refl _ _).alloc (Nat.le_refl _) _).alloc (by simp) _
  have HA := hide (ha.below hbw)
  have HW := hide hbw
  simp only [World.size_alloc] at hb2
  have B1 := hide hb1
  have B2 := hide hb2
  have hin := ha.inside
  clear hb1 hb2 hbw ha
  have HI := hide hin
  clear hin
  go_enter Try.func85, Try.ntmps85
  go_upto_region 1 with fail
  obtain ⟨w0, hw0⟩ : ∃ x, ((w.alloc (.cells #[.int .i64 la, .slice A n c] 36)).alloc (.cells #[.int .i64 0, .slice none 0 0] 36)) = x := ⟨_, rfl⟩
  rw [hw0] at HA HW B1 B2 ⊢
  clear hw0
  have l1 := B1.out.lt
  have l2 := B2.out.lt
  have hq0 := B1.out.cell 0
  have hq1 := B1.out.cell 1
  simp at hq0 hq1
  go_wp2_with fail
  refine (lcheck_any la A n c xs _ HA.out).mono ?_
  rintro e w1 ⟨rfl, hb⟩
  replace HA := hide (HA.out.below hb)
  replace HW := hide (HW.out.trans (hb.mono HW.out.size))
  replace B1 := hide (B1.out.below hb l1)
  replace B2 := hide (B2.out.below hb l2)
  clear hb hq0 hq1 l1 l2
  have l1 := B1.out.lt
  have l2 := B2.out.lt
  have hq0 := B1.out.cell 0
  have hq1 := B1.out.cell 1
  simp at hq0 hq1
  have hr0 := B2.out.cell 0
  have hr1 := B2.out.cell 1
  simp at hr0 hr1
  have hf0 := B2.out.frozen 0
  have hf1 := B2.out.frozen 1
  have HB0 := hide (Below.refl w.heap.size w)
  by_cases hp : LP.pfl la xs = 0
  · have HR : Hid (LP.fitL la xs = (0, la, xs)) := hide (by unfold LP.fitL; rw [if_pos hp])
    rw [hp]
    go_wp2_with fail
    refine bodyPost_ret (results_pe rfl _ rfl rfl ((B2.out.set_ 0 (.int .i64 la)).set_ 1 (.slice A n c))) rfl ?_
    rw [HR.out]
    refine ⟨A, n, c, rfl, ?_, fun _ => ⟨rfl, rfl⟩, ?_⟩
    · exact (HA.out.setCell (fun h ad e => by have := HI.out h ad e; omega) 0 _).setCell (fun h ad e => by have := HI.out h ad e; omega) 1 _
    · exact (HW.out.setCell (p := ⟨w.heap.size + 1, 0, none⟩) (by show w.heap.size ≤ w.heap.size + 1; omega) _).setCell (p := ⟨w.heap.size + 1, 1, none⟩) (by show w.heap.size ≤ w.heap.size + 1; omega) _
  · have HR : Hid (LP.fitL la xs = (2, 0, [])) := hide (by unfold LP.fitL; rw [if_neg hp])
    have hne : (LP.pfl la xs != 0) = true := by simpa using hp
    clear hp
    go_wp2_with fail
    refine bodyPost_ret (results_pe rfl _ rfl rfl ((B2.out.set_ 0 (.int .i64 0)).set_ 1 (.slice none 0 0))) rfl ?_
    rw [HR.out]
    refine ⟨none, 0, 0, rfl, SL.nil_ _, fun h => absurd h (by omega), ?_⟩
    exact (HW.out.setCell (p := ⟨w.heap.size + 1, 0, none⟩) (by show w.heap.size ≤ w.heap.size + 1; omega) _).setCell (p := ⟨w.heap.size + 1, 1, none⟩) (by show w.heap.size ≤ w.heap.size + 1; omega) _
end Go.Proofs.Ytndgffiihbdppaa
/- Package laurent: trimmed. -/
namespace Go.Proofs.Ytndgffiihbdppaa
set_option linter.unusedVariables false
set_option linter.unusedSimpArgs false
open Go.RowKit

/-- Both lie in the same block. -/
def SameBlk (A B : Option Addr) : Prop := ∃ ad ad', A = some ad ∧ B = some ad' ∧ ad'.block = ad.block
theorem SameBlk.new {w : World} {A B : Option Addr} {n m : Nat} (h : 0 < m → SameBlk A B) (hn : 0 < m → 0 < n) (hA : NewA w A n) : NewA w B m := fun hm ad e => by
  obtain ⟨a, b, e1, e2, e3⟩ := h hm
  rw [e] at e2
  injection e2 with e2
  rw [e2, e3]
  exact hA (hn hm) a e1

set_option maxRecDepth 100000 in
set_option maxHeartbeats 4000000 in
theorem trimmed_any (lo : Int) (A : Option Addr) (n c : Nat) (xs : List Int) (w : World) (ha : SL w A n c xs) (hlo : lo.natAbs ≤ 1000000) (hn : n ≤ 1000000) :
    Calls Try.prog 86 #[.int .i64 lo, .slice A n c] w fun e w' => ∃ B m d, e = .returned (PV (LP.canon (LP.of lo xs)).1 B m d) ∧ SL w' B m d (LP.canon (LP.of lo xs)).2 ∧ (0 < m → SameBlk A B) ∧ Below w.heap.size w w' := by
  have hln := ha.il.len
  have hcap := ha.cap
  have hin := ha.inside
  have HCAN : Hid (∀ l cs, LP.Cano l cs → LP.of l cs = LP.of lo xs → LP.canon (LP.of lo xs) = (l, cs)) := hide (fun lo cs h1 h2 => LP.canon_eq h1 h2)
  have HW0 : Hid (Below w.heap.size w (w.alloc (.cells #[.int .i64 0, .slice none 0 0] 36))) := hide ((Below.refl _ _).alloc (Nat.le_refl _) _)
  have HBK : Hid (Blk (w.alloc (.cells #[.int .i64 0, .slice none 0 0] 36)) w.heap.size 36 #[.int .i64 0, .slice none 0 0]) := hide (Blk.new _ _ _)
  have HSL := hide (ha.below HW0.out)
  have HIN := hide hin
  have hRL : Hid (xs.length = n) := hide hln
  clear ha hin
  generalize LP.canon (LP.of lo xs) = P at *
  go_enter Try.func86, Try.ntmps86
  go_upto_region 1 with fail
  obtain ⟨w0, hw0⟩ : ∃ x, w.alloc (.cells #[.int .i64 0, .slice none 0 0] 36) = x := ⟨_, rfl⟩
  rw [hw0] at HW0 HBK HSL ⊢
  clear hw0
  have hf0 := HBK.out.frozen 0
  have hf1 := HBK.out.frozen 1
  have hc0 := HBK.out.cell 0
  have hc1 := HBK.out.cell 1
  simp at hc0 hc1
  have hbw := HBK.out.lt
  go_loop [1] (fun cv => ∃ k : Nat, cv = .slice A k c ∧ k ≤ n ∧ Hid (∀ j, k ≤ j → j < n → xs.getD j 0 = 0)) (fun cv => lenV cv)
  case atStart => exact ⟨n, rfl, Nat.le_refl _, hide (fun j h1 h2 => absurd h2 (by omega))⟩
  case round =>
    obtain ⟨k, rfl, hk, HZT⟩ := hrel
    by_cases hk0 : k = 0
    · subst hk0
      have HP : Hid (P = (0, [])) := hide (HCAN.out 0 [] (.inl ⟨rfl, rfl⟩) (LP.of_zeros lo fun j hj => HZT.out j (Nat.zero_le _) (by rw [hRL.out] at hj; exact hj)))
      go_wp2_with fail
      refine wp_loop_rounds 1 ?_
      rw [rounds_succ]
      go_wp2_with fail
      refine bodyPost_ret (results_poly rfl _ rfl ((HBK.out.set_ 0 (.int .i64 0)).set_ 1 (.slice none 0 0))) rfl ?_
      rw [HP.out]
      exact ⟨none, 0, 0, rfl, SL.nil_ _, fun h => absurd h (by omega), (HW0.out.setCell (p := ⟨w.heap.size, 0, none⟩) (Nat.le_refl _) _).setCell (p := ⟨w.heap.size, 1, none⟩) (Nat.le_refl _) _⟩
    · obtain ⟨ad, hA, hcl⟩ := HSL.out.il.at_ (k := k - 1) (by omega)
      subst hA
      obtain ⟨y, hy⟩ : ∃ y, xs.getD (k - 1) 0 = y := ⟨_, rfl⟩
      rw [hy] at hcl
      have HY := hide hy
      have hmg2 : decide ((0 : Int) < (k : Int)) = true := decide_eq_true (by omega)
      have hp2 : ((k : Int) - 1).toNat = k - 1 := by omega
      clear hy
      by_cases hy0 : y = 0
      · have hye : (y == 0) = true := by simp [hy0]
        have HZT2 : Hid (∀ j, k - 1 ≤ j → j < n → xs.getD j 0 = 0) := hide (fun j h1 h2 => by
          by_cases e : j = k - 1
          · subst e; rw [HY.out]; exact hy0
          · exact HZT.out j (by omega) h2)
        clear hy0 HY
        go_wp2_with fail
        go_round
        case rel => exact ⟨k - 1, rfl, by omega, HZT2⟩
        case measure => simp [lenV]; omega
      · have hye : (y == 0) = false := by simpa using hy0
        have HE := hide (HSL.out.init_ (k := k) hk (by simp))
        have hab : ad.block < w.heap.size := HIN.out (by omega) ad rfl
        clear HSL
        go_wp2_with fail
        go_loop [0, 1] (fun lv cv => ∃ (i m d : Nat) (ad' : Addr), lv = .int .i64 (lo + i) ∧ cv = .slice (some ad') m d ∧ i + m = k ∧ SL w0 (some ad') m d ((xs.take k).drop i) ∧ ad'.block = ad.block ∧ 0 < m ∧ Hid (∀ j, j < i → xs.getD j 0 = 0)) (fun _ cv => lenV cv)
        case atStart => exact ⟨0, k, c, ad, by simp, rfl, by omega, by rw [List.drop_zero]; exact HE.out, rfl, by omega, hide (fun j hj => absurd hj (by omega))⟩
        case round =>
          clear HE hcl
          obtain ⟨i, m, d, ad', rfl, rfl, him, hsl, hblk, hm0, HZ⟩ := hrel
          have HSL := hide hsl
          have hmd := hsl.cap
          have HBLK := hide hblk
          clear hsl hblk
          obtain ⟨ad2, e2, hc⟩ := HSL.out.il.at_ (k := 0) hm0
          injection e2 with e2
          subst e2
          rw [show ad'.add 0 = ad' by unfold Addr.add; simp] at hc
          have hCi : ((xs.take k).drop i).getD 0 0 = xs.getD i 0 := by simp [List.getD, List.getElem?_take, show i < k by omega]
          rw [hCi] at hc
          have hmg : decide ((0 : Int) < (m : Int)) = true := decide_eq_true (by omega)
          obtain ⟨x, hx⟩ : ∃ x, xs.getD i 0 = x := ⟨_, rfl⟩
          rw [hx] at hc
          have HX := hide hx
          clear hx hCi
          by_cases hx0 : x = 0
          · have hxe : (x == 0) = true := by simp [hx0]
            have hm1 : 1 < m := by
              by_cases h : m = 1
              · have e1 := HY.out
                have e2 := HX.out
                rw [show k - 1 = i by omega, e2] at e1
                exact absurd (e1.symm.trans hx0) hy0
              · omega
            have hd1 : d ≠ 1 := by omega
            have HT : Hid (SL w0 (some ⟨ad'.block, ad'.off + 1, none⟩) (m - 1) (d - 1) ((xs.take k).drop (i + 1))) := hide (by
              have h := HSL.out.tail_ (by omega)
              rw [if_neg hd1] at h
              rwa [List.drop_drop] at h)
            have HZ2 : Hid (∀ j, j < i + 1 → xs.getD j 0 = 0) := hide (fun j hj => by
              by_cases e : j = i
              · subst e; rw [HX.out]; exact hx0
              · exact HZ.out j (by omega))
            clear hx0 HX hy0
            go_wp2_with fail
            go_round
            case rel => exact ⟨i + 1, m - 1, d - 1, _, by go_num, rfl, by omega, HT.out, HBLK.out, by omega, HZ2⟩
            case measure => simp [lenV]; omega
          · have hxe : (x == 0) = false := by simpa using hx0
            have hme : ((m : Int) == 0) = false := by simp; omega
            have hll : ((xs.take k).drop i).length = m := HSL.out.il.len
            have HP : Hid (P = (lo + i, (xs.take k).drop i)) := hide (HCAN.out _ _ (.inr ⟨fun e => by
              rw [e] at hll
              simp at hll
              omega, by
              rw [show ((xs.take k).drop i).getD 0 0 = xs.getD i 0 by simp [List.getD, List.getElem?_take, show i < k by omega], HX.out]
              exact hx0, by
              rw [hll]
              rw [show ((xs.take k).drop i).getD (m - 1) 0 = xs.getD (k - 1) 0 by simp [List.getD, List.getElem?_take, show k - 1 < k by omega, show i + (m - 1) = k - 1 by omega], HY.out]
              exact hy0⟩) (by
                have h := LP.of_trim (C := xs) lo (i := i) (m := m) (by rw [hRL.out]; omega) HZ.out (fun j h1 h2 => HZT.out j (by omega) (by rw [hRL.out] at h2; exact h2))
                rw [← h]
                congr 1
                rw [List.drop_take, show k - i = m by omega]))
            clear hx0 hy0 HX HY hll
            go_wp2_with fail
            refine bodyPost_ret (results_poly rfl _ rfl ((HBK.out.set_ 0 (.int .i64 (lo + i))).set_ 1 (.slice (some ad') m d))) rfl ?_
            rw [HP.out]
            refine ⟨some ad', m, d, rfl, ?_, fun _ => ⟨ad, ad', rfl, rfl, HBLK.out⟩, (HW0.out.setCell (p := ⟨w.heap.size, 0, none⟩) (Nat.le_refl _) _).setCell (p := ⟨w.heap.size, 1, none⟩) (Nat.le_refl _) _⟩
            have hblk := HBLK.out
            exact (HSL.out.setCell (fun _ a e => by injection e with e; subst e; omega) 0 _).setCell (fun _ a e => by injection e with e; subst e; omega) 1 _
end Go.Proofs.Ytndgffiihbdppaa
