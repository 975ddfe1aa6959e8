/- Several texts in one. -/
import Derived.Test.YtgbipfohcailnaaPart5
import Derived.Test.YtgbipfohcailnaaPart9
import Derived.Test.YtgbipfohcailnaaPart2
import Derived.Test.YtgbipfohcailnaaPart4
import Derived.Test.YtgbipfohcailnaaPart11
import Derived.Test.YtgbipfohcailnaaPart12
import Derived.Test.YtgbipfohcailnaaPart8
/- timbref1's Terms.Poly: its coefficients are the call's own. -/
namespace Go.Proofs.Ytgbipfohcailnaa
set_option linter.unusedVariables false
set_option linter.unusedSimpArgs false
open Go.RowKit Go.Maps

set_option maxRecDepth 100000 in
set_option maxHeartbeats 4000000 in
theorem tpoly_o (b : Nat) (T : List Tm) (E : Nat) (hE : E ≤ 400000) (w : World) (ha : MapI w b T) (hk : ∀ p ∈ T, p.1.natAbs ≤ E) :
    Calls Try.prog 18 #[.map (some b)] w fun e w' => ∃ A n c, e = .returned (PV (LP.canon (LP.mk T)).1 A n c) ∧ OwnI w' w.heap.size A n c (LP.canon (LP.mk T)).2 ∧ Below w.heap.size w w' := by
  obtain ⟨i0, hi0, hz0, hz1, hz2⟩ := info_parts int_info
  have HI0 := hide hi0
  have HZ0 := hide hz0
  have HZ1 := hide hz1
  have HZ2 := hide hz2
  clear hi0 hz0 hz1 hz2
  have HT := hide ha
  have HK := hide hk
  have lb := ha.lt
  clear ha hk
  have HB0 := hide (Blk.new w 24 #[.int .i64 0, .slice none 0 0])
  have HW0 := hide ((Below.refl w.heap.size w).alloc (Nat.le_refl _) (.cells #[.int .i64 0, .slice none 0 0] 24))
  obtain ⟨m, hm⟩ : ∃ m, w.heap.size = m := ⟨_, rfl⟩
  have HMM := hide hm
  clear hm
  go_enter Try.func18, Try.ntmps18
  go_upto_region 2 with fail
  obtain ⟨w0, hw0⟩ : ∃ x, w.alloc (.cells #[.int .i64 0, .slice none 0 0] 24) = x := ⟨_, rfl⟩
  have hm := HMM.out
  rw [hw0] at HW0 HB0 ⊢
  rw [hm] at HB0 HW0 lb ⊢
  clear hw0 hm
  have l0 : m < w0.heap.size := HB0.out.lt
  go_wp2_with (refine wpList_rangeI _ rfl _ _ rfl ut b T rfl (HT.out.below (by rw [HMM.out]; exact HW0.out)) (fun p hp => wfI (by have := HK.out p hp; omega)) ?_; intro w1 cnt hrg hg1 hs1)
  obtain ⟨r, hr⟩ : ∃ r, w0.heap.size = r := ⟨_, rfl⟩
  rw [hr] at hrg l0 ⊢
  have HB1 := hide (HB0.out.grown hg1 (by simp))
  have HW1 := hide (HW0.out.grown hg1 (by rw [← HMM.out]; exact HW0.out.size) (by simp))
  have HRG := hide hrg
  clear hrg hg1 hs1 HB0 HW0 hr
  go_frame
  go_loopw [3, 4, 5] (fun v3 v4 v5 wr => ∃ (low high : Int) (any : Bool) (done rem : List Tm) (cnt : Nat), v3 = .int .i64 low ∧ v4 = .int .i64 high ∧ v5 = .bool any ∧ RangeI wr b r T done rem cnt ∧ LH done low high any ∧ Blk wr m 24 #[.int .i64 0, .slice none 0 0] ∧ Below m w wr ∧ m < r) (fun _ _ _ wr => wr.rangeLeft b r)
  case atStart => exact ⟨0, 0, false, [], T, cnt, rfl, rfl, rfl, HRG.out, ⟨by simp, rfl, rfl⟩, HB1.out, HW1.out, l0⟩
  case round =>
    clear HRG HB1 HW1 l0
    obtain ⟨low, high, any, done, rem, cnt, rfl, rfl, rfl, hrg, hlh, hbk, hbw, hmr⟩ := hrel
    have HLH := hide hlh
    have HBK := hide hbk
    have HBW := hide hbw
    have HRG := hide hrg
    have hor := hrg.left_eq
    have HOR := hide hor
    clear hlh hbk hbw hrg hor
    go_wp2_with (refine wpList_nextI _ rfl _ rfl b r T done rem cnt rfl HRG.out ?_ ?_)
    · intro hrem
      subst hrem
      have hpm := HRG.out.all
      have lm : m < wr.heap.size := HBK.out.lt
      have hc0 := HBK.out.cell 0
      have hc1 := HBK.out.cell 1
      simp at hc0 hc1
      have hf0 := HBK.out.frozen 0
      have hf1 := HBK.out.frozen 1
      cases any with
      | false =>
        have HC := hide (HLH.out.none_ HT.out.nodup hpm)
        clear HRG HOR HLH hpm
        go_wp2_with fail
        refine bodyPost_ret (results_poly rfl _ rfl ((HBK.out.set_ 0 (.int .i64 0)).set_ 1 (.slice none 0 0))) rfl ?_
        rw [HC.out]
        refine ⟨none, 0, 0, rfl, OwnI.nil_ _ _, ?_⟩
        rw [HMM.out]
        exact (HBW.out.setCell (p := ⟨m, 0, none⟩) (Nat.le_refl _) _).setCell (p := ⟨m, 1, none⟩) (Nat.le_refl _) _
      | true =>
        obtain ⟨n, hn, hcan⟩ := HLH.out.some_ HT.out.nodup hpm
        have hlb := HLH.out.low_le (fun p hp => HK.out p (hpm.subset hp))
        subst hn
        have HC := hide hcan
        have HLB := hide hlb
        clear HRG HOR HLH hpm hcan hlb
        go_upto_region 14 with fail
        obtain ⟨q, hq⟩ : ∃ q, wr.heap.size = q := ⟨_, rfl⟩
        have HNB := hide (Blk.new wr 24 #[.int .i64 low, .slice none 0 0])
        have HMB := hide (HBK.out.alloc (.cells #[.int .i64 low, .slice none 0 0] 24))
        have HMW := hide (HBW.out.alloc (by rw [← HMM.out]; exact HBW.out.size) (.cells #[.int .i64 low, .slice none 0 0] 24))
        obtain ⟨w5, hw5⟩ : ∃ x, wr.alloc (.cells #[.int .i64 low, .slice none 0 0] 24) = x := ⟨_, rfl⟩
        rw [hw5] at HNB HMB HMW ⊢
        rw [hq] at HNB lm ⊢
        clear hw5 hq hc0 hc1 hf0 hf1 HBK HBW
        have hnE := HLB.out
        have hn8 : n ≤ 800000 := by omega
        go_wp2_with fail
        go_loopw [9] (fun iv wr => ∃ (k d : Nat) (A : Option Addr), iv = .int .i64 (low + k) ∧ k ≤ n + 1 ∧ Blk wr q 24 #[.int .i64 low, .slice A k d] ∧ OwnI wr (q + 1) A k d (LP.win (LP.mk T) low k) ∧ Blk wr m 24 #[.int .i64 0, .slice none 0 0] ∧ Below m w wr) (fun iv _ => (low + n + 1 - intOf iv).toNat)
        case atStart => exact ⟨0, 0, none, by simp, by omega, HNB.out, OwnI.nil_ _ _, HMB.out, HMW.out⟩
        case round =>
          rename World => wo
          clear HNB HMB HMW
          obtain ⟨k, d, A, rfl, hk, hbq, hown, hbm, hbw⟩ := hrel
          have HBQ := hide hbq
          have HO := hide hown
          have HBM := hide hbm
          have HBW := hide hbw
          have lq := hbq.lt
          have lm2 := hbm.lt
          have hq0 := hbq.cell 0
          have hq1 := hbq.cell 1
          simp at hq0 hq1
          clear hbq hown hbm hbw
          by_cases hlt : k < n + 1
          · have hle : decide (low + (k : Int) ≤ low + n) = true := by simp; omega
            have HWF := hide (wfI (x := low + k) (by omega))
            have HTO := hide (HT.out.below (w' := wo) (by rw [HMM.out]; exact HBW.out))
            have HWS := hide (LP.win_succ (LP.mk T) low k)
            rw [show LP.co (LP.mk T) (low + k) = coefT T (low + k) from rfl] at HWS
            obtain ⟨cv, hcv⟩ : ∃ cv, coefT T (low + k) = cv := ⟨_, rfl⟩
            rw [hcv] at HWS
            have HCV := hide hcv
            clear hcv
            have HNQ : Hid (some q ≠ (Value.slice A (k + 1) d).ownBlock) := hide (fun e => by
              have := (HO.out.lt q (by rw [ownBlock_len A k (k + 1) d d]; exact e.symm)).1
              omega)
            have HNM : Hid (some m ≠ (Value.slice A (k + 1) d).ownBlock) := hide (fun e => by
              have := (HO.out.lt m (by rw [ownBlock_len A k (k + 1) d d]; exact e.symm)).1
              omega)
            have HMA : Hid (∀ j, (Value.slice A (k + 1) d).ownBlock = some j → m ≤ j) := hide (fun j e => by
              have := (HO.out.lt j (by rw [ownBlock_len A k (k + 1) d d]; exact e)).1
              omega)
            go_wp2_with (first
              | ((with_reducible show wpList _ _ _ (Oper.mk _ (.lookup _ _ _ _) _ _ _ _ :: _) _ _); refine wpList_lookI _ rfl _ _ _ rfl ut b T (low + k) rfl HTO.out rfl HWF.out ?_; rw [HCV.out])
              | (at_builtin; refine wpList_append_int _ rfl (.tmp 47) (.tmp 51) 22 rfl (q + 1) i0 Try.underlying22 HI0.out HZ0.out HZ1.out HZ2.out A k d (LP.win (LP.mk T) low k) rfl (HO.out.alloc _) (some ⟨_, 0, none⟩) 1 1 [cv] rfl (IL.lit _ [cv] (by simp) rfl rfl) (by omega) (by simp; omega) ?_; intro A8 c8 w8 hap; have HB8 := hide ((HBQ.out.alloc _).grown hap.grown HNQ.out); have hq8 := HB8.out.cell 1; simp at hq8; have hf8 := HB8.out.frozen 1; have l8 := HB8.out.lt))
            have hO8 := hap.own
            rw [← HWS.out] at hO8
            have HB9 := hide (HB8.out.set_ 1 (.slice A8 (k + 1) c8))
            have HO9 := hide (hO8.kept (grownBy_set w8 q 1 (.slice A8 (k + 1) c8)) (by
              rcases h0 : (Value.slice A8 (k + 1) c8).ownBlock with _ | j
              · exact .inl rfl
              · right
                intro e
                have := (hO8.lt j h0).1
                injection e with e
                omega))
            have HM9 := hide (((HBM.out.alloc (.cells #[.int .i64 cv] 3)).grown hap.grown HNM.out).far (p := ⟨q, 1, none⟩) (by show m ≠ q; omega) (.slice A8 (k + 1) c8))
            have HW9 := hide (((HBW.out.alloc (by rw [← HMM.out]; exact HBW.out.size) (.cells #[.int .i64 cv] 3)).grown hap.grown (by simp; omega) (fun j hj => HMA.out j hj)).setCell (p := ⟨q, 1, none⟩) (by show m ≤ q; omega) (.slice A8 (k + 1) c8))
            clear hap hO8 hq8 hf8
            go_roundw
            case rel => exact ⟨k + 1, c8, A8, by congr 1; omega, by omega, HB9.out, HO9.out, HM9.out, HW9.out⟩
            case measure => simp [intOf]; omega
          · have hkn : k = n + 1 := by omega
            subst hkn
            have hle : decide (low + ((n + 1 : Nat) : Int) ≤ low + n) = false := by simp; omega
            have hc0 := HBM.out.cell 0
            have hc1 := HBM.out.cell 1
            simp at hc0 hc1
            have hf0 := HBM.out.frozen 0
            have hf1 := HBM.out.frozen 1
            have HLT := hide (fun ad (e : A = some ad) => (HO.out.lt ad.block (by rw [e]; rfl)).1)
            clear hlt
            go_wp2_with fail
            refine bodyPost_ret (results_poly rfl _ rfl ((HBM.out.set_ 0 (.int .i64 low)).set_ 1 (.slice A (n + 1) d))) rfl ?_
            rw [HC.out]
            refine ⟨A, n + 1, d, rfl, ?_, ?_⟩
            · have hne : (Value.slice A (n + 1) d).ownBlock = none ∨ (Value.slice A (n + 1) d).ownBlock ≠ some m := by
                rcases h0 : (Value.slice A (n + 1) d).ownBlock with _ | j
                · exact .inl rfl
                · right
                  intro e
                  have := (HO.out.lt j h0).1
                  injection e with e
                  omega
              exact ((HO.out.kept (grownBy_set wo m 0 _) hne).kept (grownBy_set _ m 1 _) hne).mono (by rw [HMM.out]; omega)
            · rw [HMM.out]
              exact (HBW.out.setCell (p := ⟨m, 0, none⟩) (Nat.le_refl _) _).setCell (p := ⟨m, 1, none⟩) (Nat.le_refl _) _
    · intro x c rem' w2 cnt' hpm hrg2 hlt hg2 hs2 hen
      have HB2 := hide (HBK.out.grown hg2 (by intro e; injection e with e; omega))
      have HBW2 := hide (HBW.out.grown hg2 (by rw [← HMM.out]; exact HBW.out.size) (fun j hj => by injection hj with hj; omega))
      have HRG2 := hide hrg2
      clear hrg2 hpm hg2 hs2 HBK HBW HRG
      by_cases hc : c = 0
      · subst hc
        have HLH2 := hide (HLH.out.zero x)
        clear HLH
        go_wp2_with fail
        go_roundw
        case rel => exact ⟨low, high, any, _, rem', cnt', rfl, rfl, rfl, HRG2.out, HLH2.out, HB2.out, HBW2.out, hmr⟩
        case measure => rw [HRG2.out.left_eq, HOR.out]; exact hlt
      · have f : (c == 0) = false := by simpa using hc
        cases any with
        | false =>
          have HLH2 := hide (HLH.out.first x hc)
          clear HLH hc
          go_wp2_with fail
          go_roundw
          case rel => exact ⟨x, x, true, _, rem', cnt', rfl, rfl, rfl, HRG2.out, HLH2.out, HB2.out, HBW2.out, hmr⟩
          case measure => rw [HRG2.out.left_eq, HOR.out]; exact hlt
        | true =>
          have HLH2 := hide (HLH.out.next x hc)
          clear HLH hc
          by_cases h1 : x < low
          · by_cases h2 : high < x
            · rw [if_pos h1, if_pos h2] at HLH2
              go_wp2_with fail
              go_roundw
              case rel => exact ⟨_, _, true, _, rem', cnt', rfl, rfl, rfl, HRG2.out, HLH2.out, HB2.out, HBW2.out, hmr⟩
              case measure => rw [HRG2.out.left_eq, HOR.out]; exact hlt
            · rw [if_pos h1, if_neg h2] at HLH2
              go_wp2_with fail
              go_roundw
              case rel => exact ⟨_, _, true, _, rem', cnt', rfl, rfl, rfl, HRG2.out, HLH2.out, HB2.out, HBW2.out, hmr⟩
              case measure => rw [HRG2.out.left_eq, HOR.out]; exact hlt
          · by_cases h2 : high < x
            · rw [if_neg h1, if_pos h2] at HLH2
              go_wp2_with fail
              go_roundw
              case rel => exact ⟨_, _, true, _, rem', cnt', rfl, rfl, rfl, HRG2.out, HLH2.out, HB2.out, HBW2.out, hmr⟩
              case measure => rw [HRG2.out.left_eq, HOR.out]; exact hlt
            · rw [if_neg h1, if_neg h2] at HLH2
              go_wp2_with fail
              go_roundw
              case rel => exact ⟨_, _, true, _, rem', cnt', rfl, rfl, rfl, HRG2.out, HLH2.out, HB2.out, HBW2.out, hmr⟩
              case measure => rw [HRG2.out.left_eq, HOR.out]; exact hlt
end Go.Proofs.Ytgbipfohcailnaa
/- timbref1.Normal. -/
namespace Go.Proofs.Ytgbipfohcailnaa
set_option linter.unusedVariables false
set_option linter.unusedSimpArgs false
open Go.RowKit Go.Maps

/-- The first k numbers with the other sign. -/
def negK (cs : List Int) (k : Nat) : List Int := (List.range cs.length).map fun j => if j < k then -cs.getD j 0 else cs.getD j 0
theorem negK_zero (cs : List Int) : negK cs 0 = cs := by
  refine List.ext_getElem (by simp [negK]) fun i h1 h2 => ?_
  simp [negK, List.getD, List.getElem?_eq_getElem h2]
theorem negK_set {cs : List Int} {k : Nat} (hk : k < cs.length) : (negK cs k).set k (-cs.getD k 0) = negK cs (k + 1) := by
  refine List.ext_getElem (by simp [negK]) fun i h1 h2 => ?_
  rw [List.getElem_set]
  simp only [negK, List.getElem_map, List.getElem_range]
  by_cases h : k = i
  · subst h; simp
  · rw [if_neg h]
    by_cases h3 : i < k
    · rw [if_pos h3, if_pos (by omega)]
    · rw [if_neg h3, if_neg (by omega)]
theorem negK_getD {cs : List Int} {k j : Nat} (hj : j < cs.length) : (negK cs k).getD j 0 = if j < k then -cs.getD j 0 else cs.getD j 0 := by simp [negK, List.getD, hj]
theorem negK_norm {cs : List Int} (h : LP.sgL cs = -1) : negK cs cs.length = LP.normC cs := by
  unfold LP.normC
  rw [h]
  refine List.ext_getElem (by simp [negK]) fun i h1 h2 => ?_
  simp only [negK, List.getElem_map, List.getElem_range]
  have hi : i < cs.length := by simpa [negK] using h1
  rw [if_pos hi]
  simp only [List.getD, List.getElem?_eq_getElem hi]
  show -cs[i] = -1 * cs[i]
  omega
theorem normC_one {cs : List Int} (h : LP.sgL cs = 1) : LP.normC cs = cs := by
  unfold LP.normC
  rw [h]
  simp

set_option maxRecDepth 100000 in
set_option maxHeartbeats 4000000 in
theorem tnormal_any (b : Nat) (T : List Tm) (E : Nat) (hE : E ≤ 400000) (w : World) (ha : MapI w b T) (hk : ∀ p ∈ T, p.1.natAbs ≤ E) (hv : ∀ c ∈ (LP.canon (LP.mk T)).2, c.natAbs ≤ 4000000000000000000) :
    Calls Try.prog 8 #[.map (some b)] w (GivesP w 0 (LP.normC (LP.canon (LP.mk T)).2)) := by
  have HW0 : Hid (Below w.heap.size w (w.alloc (.cells #[.int .i64 0, .slice none 0 0] 24))) := hide ((Below.refl _ _).alloc (Nat.le_refl _) _)
  have B20 := hide (Blk.new w 24 #[.int .i64 0, .slice none 0 0])
  have HP := hide (tpoly_o b T E hE _ (ha.below HW0.out) hk)
  have HV := hide hv
  clear ha hk hv
  generalize LP.canon (LP.mk T) = P at *
  obtain ⟨lo, cs⟩ := P
  simp only at HV HP ⊢
  go_enter Try.func8, Try.ntmps8
  go_upto_region 1 with fail
  obtain ⟨b2, hb2⟩ : ∃ q, w.heap.size = q := ⟨_, rfl⟩
  have HB2 := hide hb2
  obtain ⟨w0, hw0⟩ : ∃ x, w.alloc (.cells #[.int .i64 0, .slice none 0 0] 24) = x := ⟨_, rfl⟩
  rw [hw0] at HW0 B20 HP ⊢
  rw [hb2] at HW0 B20 ⊢
  clear hw0 hb2
  go_wp2_with fail
  refine HP.out.mono ?_
  rintro e w1 ⟨A, n, c, rfl, ho, hb⟩
  have hl2 := B20.out.lt
  have hsz1 := hb.size
  have hin : ∀ k, (Value.slice A n c).ownBlock = some k → b2 < k ∧ k < w1.heap.size := fun k hk => by have := ho.lt k hk; omega
  have HO := hide (ho.mono (b' := b2) (by omega))
  have HIN := hide hin
  have HW := hide (HW0.out.trans (hb.mono (by omega)))
  have B2 := hide (B20.out.below hb B20.out.lt)
  have hcl := ho.len
  clear ho hin hb HP B20 HW0
  have hb3 : Below w1.heap.size w1 (w1.alloc (.cells #[.int .i64 0, .slice A n c] 24)) := (Below.refl _ _).alloc (Nat.le_refl _) _
  have hB3 := Blk.new w1 24 #[.int .i64 0, .slice A n c]
  go_upto_region 3 with fail
  obtain ⟨b3, hbe⟩ : ∃ q, w1.heap.size = q := ⟨_, rfl⟩
  obtain ⟨w2, hw2⟩ : ∃ x, w1.alloc (.cells #[.int .i64 0, .slice A n c] 24) = x := ⟨_, rfl⟩
  rw [hw2] at hb3 hB3 ⊢
  replace HO := hide (HO.out.below hb3)
  replace HW := hide (HW.out.trans (hb3.mono (by omega)))
  replace B2 := hide (B2.out.below hb3 (by omega))
  rw [hbe] at hB3 HIN ⊢
  have hl23 : b2 < b3 := by omega
  have HB3 := hide hB3
  clear hw2 hb3 hbe
  have hq1 := hB3.cell 1
  simp at hq1
  have hsn := HO.out.small
  have HSG : Hid (LP.sgL cs = if cs.getD (n - 1) 0 < 0 then -1 else 1) := hide (by unfold LP.sgL; rw [hcl])
  have HEND : Hid (∀ (wz : World) (ds : List Int), OwnI wz b2 A n c ds → Blk wz b2 24 #[.int .i64 0, .slice none 0 0] → Below b2 w wz → ds = LP.normC cs → GivesP w 0 (LP.normC cs) (.returned (PV 0 A n c)) ((wz.setCell ⟨b2, 0, none⟩ (.int .i64 0)).setCell ⟨b2, 1, none⟩ (.slice A n c))) := hide (fun wz ds h1 h2 h3 h4 => by
    have hf : 0 < n → ∀ ad, A = some ad → ad.block ≠ b2 := fun h ad e => by have := (HIN.out ad.block (by rw [e]; rfl)).1; omega
    refine ⟨A, n, c, rfl, by rw [← h4]; exact (h1.sl.setCell hf 0 _).setCell hf 1 _, fun h ad e => by have := (HIN.out ad.block (by rw [e]; rfl)).1; rw [HB2.out]; omega, ?_⟩
    rw [HB2.out]
    exact (h3.setCell (p := ⟨b2, 0, none⟩) (Nat.le_refl _) _).setCell (p := ⟨b2, 1, none⟩) (Nat.le_refl _) _)
  clear hB3
  by_cases hn0 : n = 0
  · have hs1 : LP.sgL cs = 1 := by rw [HSG.out, List.eq_nil_of_length_eq_zero (show cs.length = 0 by omega)]; rfl
    have HN := hide (normC_one hs1)
    have hr0 := B2.out.cell 0
    have hr1 := B2.out.cell 1
    have hq0 := HB3.out.cell 0
    simp at hr0 hr1 hq0
    have hf0 := B2.out.frozen 0
    have hf1 := B2.out.frozen 1
    have hl2b := B2.out.lt
    clear hs1 HSG
    subst hn0
    go_wp2_with fail
    refine bodyPost_ret (results_poly rfl _ rfl ((B2.out.set_ 0 (.int .i64 0)).set_ 1 (.slice A 0 c))) rfl ?_
    exact HEND.out w2 cs HO.out B2.out HW.out HN.out.symm
  obtain ⟨g, hA, hg1, hg2⟩ := HO.out.form (by omega)
  subst hA
  have hgl : b2 < g ∧ g < b3 := HIN.out g rfl
  have hcell := HO.out.cell (j := n - 1) (by omega)
  obtain ⟨y, hy⟩ : ∃ y, cs.getD (n - 1) 0 = y := ⟨_, rfl⟩
  rw [hy] at hcell HSG
  have hgd : decide ((0 : Int) < (n : Int)) = true := decide_eq_true (by omega)
  have hp2 : IntKind.i64.wrap ((n : Int) - 1) = ((n - 1 : Nat) : Int) := by rw [IntKind.wrap_i64]; omega
  obtain ⟨k1, hk1⟩ : ∃ k, n - 1 = k := ⟨_, rfl⟩
  rw [hk1] at hcell hp2
  have hkn : k1 < n := by omega
  have hk2 : ((n : Int) - 1).toNat = k1 := by omega
  clear hy hk1 hn0
  by_cases hy0 : y < 0
  · rw [if_pos hy0] at HSG
    have HN := hide (negK_norm HSG.out)
    clear HSG
    go_wp2_with fail
    clear hcell hp2 hk2 hq1
    go_loopw [26] (fun iv wr => ∃ k : Nat, k ≤ n ∧ iv = .int .i64 k ∧ OwnI wr b2 (some ⟨g, 0, none⟩) n c (negK cs k) ∧ Blk wr b3 24 #[.int .i64 0, .slice (some ⟨g, 0, none⟩) n c] ∧ Blk wr b2 24 #[.int .i64 0, .slice none 0 0] ∧ Below b2 w wr) (fun iv _ => n - (intOf iv).toNat)
    case atStart => exact ⟨0, Nat.zero_le _, rfl, by rw [negK_zero]; exact HO.out, HB3.out, B2.out, HW.out⟩
    case round =>
      clear HO HB3 B2 HW
      obtain ⟨k, hk, rfl, ho, h3, h2, hw⟩ := hrel
      have HOK := hide ho
      have HB3 := hide h3
      have B2 := hide h2
      have HW := hide hw
      clear ho h3 h2 hw
      by_cases hlt : k < n
      · obtain ⟨x, hx⟩ : ∃ x, cs.getD k 0 = x := ⟨_, rfl⟩
        have HXK : Hid ((negK cs k).getD k 0 = x) := hide (by rw [negK_getD (by omega), if_neg (by omega), hx])
        have hxv : x.natAbs ≤ 4000000000000000000 := by rw [← hx]; exact HV.out _ (LP.getD_mem' (by omega))
        have hwn : IntKind.i64.wrap (-x) = -x := by rw [IntKind.wrap_i64]; omega
        have HST : Hid ((negK cs k).set k (-x) = negK cs (k + 1)) := hide (by rw [← hx]; exact negK_set (by omega))
        have hcr := HOK.out.drew.cell hlt
        have hfr := HOK.out.drew.frozen k
        clear hx hxv
        go_upto_region 8 with fail
        refine wp_region_T (S := fun w' => Below wr.heap.size wr w') 10 (by kernel_rfl) (Below.refl _ _).drew (fun hS => ?_)
        refine wpT_tk 0 (v := .pointer (some ⟨b3, 1, none⟩)) rfl (by kernel_rfl) (by kernel_rfl) (by kernel_rfl) (by kernel_rfl) (yi rfl fun w' hw' => gives_fld rfl Try.underlying24 rfl rfl rfl (fun w => rfl)) hS ?_
        go_frame
        refine wpT_tk 1 (v := .slice (some ⟨g, 0, none⟩) n c) rfl (by kernel_rfl) (by kernel_rfl) (by kernel_rfl) (by kernel_rfl) (yi rfl fun w' hw' => gives_load1 rfl (by kernel_rfl) rfl (by have h := (HB3.out.below hw' HB3.out.lt).cell 1; simpa using h)) hS ?_
        go_frame
        refine wpT_tk 2 (v := .int .i64 k) rfl (by kernel_rfl) (by kernel_rfl) (by kernel_rfl) (by kernel_rfl) (yi rfl fun w' hw' => gives_move (.inl rfl) rfl) hS ?_
        go_frame
        refine wpT_tk 3 (v := .pointer (some ⟨b3, 1, none⟩)) rfl (by kernel_rfl) (by kernel_rfl) (by kernel_rfl) (by kernel_rfl) (yi rfl fun w' hw' => gives_fld rfl Try.underlying24 rfl rfl rfl (fun w => rfl)) hS ?_
        go_frame
        refine wpT_tk 4 (v := .slice (some ⟨g, 0, none⟩) n c) rfl (by kernel_rfl) (by kernel_rfl) (by kernel_rfl) (by kernel_rfl) (yi rfl fun w' hw' => gives_load1 rfl (by kernel_rfl) rfl (by have h := (HB3.out.below hw' HB3.out.lt).cell 1; simpa using h)) hS ?_
        go_frame
        refine wpT_tk 5 (v := .int .i64 k) rfl (by kernel_rfl) (by kernel_rfl) (by kernel_rfl) (by kernel_rfl) (yi rfl fun w' hw' => gives_move (.inl rfl) rfl) hS ?_
        go_frame
        refine wpT_tk 6 (v := .pointer (some ((⟨g, 0, none⟩ : Addr).add k))) rfl (by kernel_rfl) (by kernel_rfl) (by kernel_rfl) (by kernel_rfl) (yi rfl fun w' hw' => gives_indexA rfl Try.underlying22 (fun w => by kernel_rfl) rfl rfl hlt) hS ?_
        go_frame
        refine wpT_tk 7 (v := .int .i64 x) rfl (by kernel_rfl) (by kernel_rfl) (by kernel_rfl) (by kernel_rfl) (yi rfl fun w' hw' => gives_load1 rfl (by kernel_rfl) rfl (by rw [add_zero_block, (HOK.out.below hw').cell hlt, HXK.out])) hS ?_
        go_frame
        refine wpT_tk 8 (v := .int .i64 (-x)) rfl (by kernel_rfl) (by kernel_rfl) (by kernel_rfl) (by kernel_rfl) (yi rfl fun w' hw' => gives_neg rfl rfl hwn) hS ?_
        go_frame
        refine wpT_tk 9 (v := .pointer (some ((⟨g, 0, none⟩ : Addr).add k))) rfl (by kernel_rfl) (by kernel_rfl) (by kernel_rfl) (by kernel_rfl) (yi rfl fun w' hw' => gives_indexA rfl Try.underlying22 (fun w => by kernel_rfl) rfl rfl hlt) hS ?_
        go_frame
        rw [add_zero_block]
        refine wpT_1 10 rfl (by kernel_rfl) ?_
        refine wp_storeI rfl (by kernel_rfl) (by kernel_rfl) rfl rfl hcr hfr ?_
        refine ⟨fun h => absurd rfl h, ?_⟩
        go_frame
        refine wpT_done (by kernel_rfl) (noPanic_mk ?_) _
        have hN := HOK.out.drew.set_ k (-x)
        rw [HST.out] at hN
        have HN1 := hide hN
        have H3 := hide ((show Blk wr.drew b3 _ _ from HB3.out).far (p := ⟨g, k, none⟩) (show b3 ≠ g by omega) (.int .i64 (-x)))
        have H2 := hide ((show Blk wr.drew b2 _ _ from B2.out).far (p := ⟨g, k, none⟩) (show b2 ≠ g by omega) (.int .i64 (-x)))
        have HWN := hide (HW.out.drew.setCell (p := ⟨g, k, none⟩) (show b2 ≤ g by omega) (.int .i64 (-x)))
        clear hN hS hcr hfr hwn HXK HST HOK HB3 B2 HW
        generalize wr.drew.setCell ⟨g, k, none⟩ (.int .i64 (-x)) = w12 at *
        go_wp2_with fail
        go_roundw
        case rel => exact ⟨k + 1, by omega, by go_num, HN1.out, H3.out, H2.out, HWN.out⟩
        case measure => simp [intOf]; omega
      · have hkn2 : k = n := by omega
        have HE := HOK.out
        rw [hkn2, ← hcl, HN.out, hcl] at HE
        have HOE := hide HE
        have hr0 := B2.out.cell 0
        have hr1 := B2.out.cell 1
        have hq0 := HB3.out.cell 0
        have hq1 := HB3.out.cell 1
        simp at hr0 hr1 hq0 hq1
        have hf0 := B2.out.frozen 0
        have hf1 := B2.out.frozen 1
        have hl2b := B2.out.lt
        clear HE HOK
        go_wp2_with fail
        refine bodyPost_ret (results_poly rfl _ rfl ((B2.out.set_ 0 (.int .i64 0)).set_ 1 (.slice (some ⟨g, 0, none⟩) n c))) rfl ?_
        exact HEND.out wr _ HOE.out B2.out HW.out rfl
  · rw [if_neg hy0] at HSG
    have HN := hide (normC_one HSG.out)
    have hr0 := B2.out.cell 0
    have hr1 := B2.out.cell 1
    have hq0 := HB3.out.cell 0
    simp at hr0 hr1 hq0
    have hf0 := B2.out.frozen 0
    have hf1 := B2.out.frozen 1
    have hl2b := B2.out.lt
    clear HSG
    go_wp2_with fail
    refine bodyPost_ret (results_poly rfl _ rfl ((B2.out.set_ 0 (.int .i64 0)).set_ 1 (.slice (some ⟨g, 0, none⟩) n c))) rfl ?_
    exact HEND.out w2 cs HO.out B2.out HW.out HN.out.symm
end Go.Proofs.Ytgbipfohcailnaa
/- timblaw1.AlexanderMinors, for a package alexander that answers as it should. (Written by tools/gen_amin.py.) -/
namespace Go.Proofs.Ytgbipfohcailnaa
set_option linter.unusedVariables false
set_option linter.unusedSimpArgs false
open Go.RowKit

theorem ref_lit (la : Int) (xs : List Int) (w : World) (A : Option Addr) (n c : Nat) (B : Option Addr) (m d : Nat) (ha : SL w A n c xs) (hb : SL w B m d xs) :
    Calls Try.prog 5 #[PV la A n c, PV la B m d] w fun e w' => e = .returned (.bool true) ∧ Below w.heap.size w w' := by
  have h := same_r la A n c xs la B m d xs w ha hb
  rw [show (decide (la = la) && eqB xs xs) = true by rw [eqB_true rfl]; simp] at h
  exact h
theorem tabP_len (n : Nat) (X : Mtx LP) {i : Nat} (hi : i < n) : ((tabP n X).getD i []).length = n := by
  unfold tabP
  simp [List.getD, hi]
theorem adet_tab (n : Nat) (w : List Int) : detR (n - 1) (mtx (tabP (n - 1) (aM n w))) = adet n w := detR_congr fun i hi j hj => tabP_get _ _ hi hj

set_option maxRecDepth 100000 in
set_option maxHeartbeats 8000000 in
theorem alexMinors_any (F : AlexC) (nn : Int) (A : Option Addr) (n c : Nat) (xs : List Int) (w : World) (ha : SL w A n c xs) (hwn : (Lit.int .i64 nn).wf = true) :
    Calls Try.prog 3 #[.int .i64 nn, .slice A n c] w fun e w' => e = .returned (.bool true) ∧ Below w.heap.size w w' := by
  have HF := hide F
  have HWN := hide hwn
  have hb0 : Below w.heap.size w (w.alloc (.cells #[.int .i64 1, .int .i64 1, .int .i64 1] 3)) := (Below.refl _ _).alloc (Nat.le_refl _) _
  have HA := hide (ha.below hb0)
  have HS := hide (SL.lit w [1, 1, 1] (by decide) rfl rfl)
  have HW := hide hb0
  have hlen := ha.il.len
  clear F ha hwn hb0
  go_enter Try.func3, Try.ntmps3
  go_wp2_with fail
  refine (HF.out.poly 2 _ 3 3 [1, 1, 1] _ HS.out (by decide) alF_2).mono ?_
  rintro e w11 ⟨P, pn, pc, rfl, hs, hn, hb⟩
  dsimp only at hs ⊢
  rw [al_111.1]
  rw [al_111.2.1] at hs
  replace HW := hide (HW.out.trans (hb.mono HW.out.size))
  replace HA := hide (HA.out.below hb)
  have SP := hide hs
  clear hs hn hb HS
  go_upto_region 2 with fail
  have hb : Below w11.heap.size w11 (w11.alloc (.cells #[.int .i64 0, .slice P pn pc] 24)) := (Below.refl _ _).alloc (Nat.le_refl _) _
  have BP := hide (Blk.new w11 24 #[.int .i64 0, .slice P pn pc])
  replace HW := hide (HW.out.trans (hb.mono HW.out.size))
  replace HA := hide (HA.out.below hb)
  replace SP := hide (SP.out.below hb)
  obtain ⟨bP, hq⟩ : ∃ q, w11.heap.size = q := ⟨_, rfl⟩
  obtain ⟨w12, hw⟩ : ∃ x, w11.alloc (.cells #[.int .i64 0, .slice P pn pc] 24) = x := ⟨_, rfl⟩
  rw [hw] at BP HW HA SP ⊢
  rw [hq] at BP  ⊢
  clear hb hw hq
  have hb : Below w12.heap.size w12 (w12.alloc (.cells #[.int .i64 1, .int .i64 (-1), .int .i64 1] 3)) := (Below.refl _ _).alloc (Nat.le_refl _) _
  have HL : Hid (SL (w12.alloc (.cells #[.int .i64 1, .int .i64 (-1), .int .i64 1] 3)) (some ⟨w12.heap.size, 0, none⟩) 3 3 [1, -1, 1]) := hide (SL.lit w12 [1, -1, 1] (by decide) rfl rfl)
  have hp0 := BP.out.cell 0
  have hp1 := BP.out.cell 1
  simp at hp0 hp1
  replace HW := hide (HW.out.trans (hb.mono HW.out.size))
  replace HA := hide (HA.out.below hb)
  replace SP := hide (SP.out.below hb)
  replace BP := hide (BP.out.below hb BP.out.lt)
  clear hb
  go_wp2_with fail
  refine (ref_lit 0 [1, -1, 1] _ P pn pc _ 3 3 SP.out HL.out).mono ?_
  rintro e w13 ⟨rfl, hb⟩
  replace HW := hide (HW.out.trans (hb.mono HW.out.size))
  replace HA := hide (HA.out.below hb)
  replace SP := hide (SP.out.below hb)
  replace BP := hide (BP.out.below hb BP.out.lt)
  clear hb hp0 hp1 HL
  clear SP BP
  go_wp2_with fail
  refine (braidFault_any nn A n c xs _ HA.out.il HWN.out).mono ?_
  rintro e w14 ⟨rfl, hww⟩
  replace hww := hww.symm
  subst hww
  by_cases hbf : bfault nn xs = 0
  case neg =>
    have hE := alE_bad hbf
    have HE1 := hide hE
    have HE2 := hide (alP_bad (n := nn) (w := xs) (by rw [hE]; exact hbf))
    have HFL := hide (alF_bad (n := nn) (w := xs) (by rw [hE]; exact hbf))
    generalize bfault nn xs = z at *
    have z1 : (z == 0) = false := by simpa using hbf
    have z2 : (z != 0) = true := by simpa using hbf
    have z3 : (z != z) = false := by simp
    clear hbf hE hlen
    go_wp2_with fail
    refine (HF.out.poly nn A n c xs _ HA.out HWN.out HFL.out).mono ?_
    rintro e w21 ⟨Q, qn, qc, rfl, hs, hn, hb⟩
    replace HW := hide (HW.out.trans (hb.mono HW.out.size))
    replace HA := hide (HA.out.below hb)
    dsimp only at hs ⊢
    rw [HE1.out]
    rw [HE2.out.1] at hs
    have SQ := hide hs
    clear hb hs hn
    go_upto_region 10 with fail
    have hb : Below w21.heap.size w21 (w21.alloc (.cells #[.int .i64 0, .slice Q qn qc] 24)) := (Below.refl _ _).alloc (Nat.le_refl _) _
    have BQ := hide (Blk.new w21 24 #[.int .i64 0, .slice Q qn qc])
    replace HW := hide (HW.out.trans (hb.mono HW.out.size))
    replace HA := hide (HA.out.below hb)
    replace SQ := hide (SQ.out.below hb)
    obtain ⟨bQ, hq⟩ : ∃ q, w21.heap.size = q := ⟨_, rfl⟩
    obtain ⟨w22, hw⟩ : ∃ x, w21.alloc (.cells #[.int .i64 0, .slice Q qn qc] 24) = x := ⟨_, rfl⟩
    rw [hw] at BQ HW HA SQ ⊢
    rw [hq] at BQ  ⊢
    clear hb hw hq
    go_wp2_with fail
    refine (HF.out.det nn A n c xs _ HA.out HWN.out HFL.out).mono ?_
    rintro e w23 ⟨rfl, hb⟩
    replace HW := hide (HW.out.trans (hb.mono HW.out.size))
    replace HA := hide (HA.out.below hb)
    replace SQ := hide (SQ.out.below hb)
    replace BQ := hide (BQ.out.below hb BQ.out.lt)
    rw [HE1.out, HE2.out.2]
    clear hb
    have hq0 := BQ.out.cell 0
    have hq1 := BQ.out.cell 1
    simp at hq0 hq1
    go_wp2_with fail
    refine (ref_lit 0 [] _ Q qn qc none 0 0 SQ.out (SL.nil_ _)).mono ?_
    rintro e w24 ⟨rfl, hb⟩
    replace HW := hide (HW.out.trans (hb.mono HW.out.size))
    replace HA := hide (HA.out.below hb)
    replace SQ := hide (SQ.out.below hb)
    replace BQ := hide (BQ.out.below hb BQ.out.lt)
    clear hb hq0 hq1
    go_wp2_with fail
    go_ret
    exact ⟨rfl, HW.out⟩
  rw [hbf]
  by_cases h20 : 20 < n
  case pos =>
    have hE := alE_long hbf (by rw [hlen]; exact h20)
    have HE1 := hide hE
    have HE2 := hide (alP_bad (n := nn) (w := xs) (by rw [hE]; decide))
    have HFL := hide (alF_bad (n := nn) (w := xs) (by rw [hE]; decide))
    have d1 : decide ((20 : Int) < (n : Int)) = true := by simp; omega
    have d2 : decide (20 < n) = true := by simpa using h20
    clear hbf hE hlen h20
    go_wp2_with fail
    refine (HF.out.poly nn A n c xs _ HA.out HWN.out HFL.out).mono ?_
    rintro e w21 ⟨Q, qn, qc, rfl, hs, hn, hb⟩
    replace HW := hide (HW.out.trans (hb.mono HW.out.size))
    replace HA := hide (HA.out.below hb)
    dsimp only at hs ⊢
    rw [HE1.out]
    rw [HE2.out.1] at hs
    have SQ := hide hs
    clear hb hs hn
    go_upto_region 10 with fail
    have hb : Below w21.heap.size w21 (w21.alloc (.cells #[.int .i64 0, .slice Q qn qc] 24)) := (Below.refl _ _).alloc (Nat.le_refl _) _
    have BQ := hide (Blk.new w21 24 #[.int .i64 0, .slice Q qn qc])
    replace HW := hide (HW.out.trans (hb.mono HW.out.size))
    replace HA := hide (HA.out.below hb)
    replace SQ := hide (SQ.out.below hb)
    obtain ⟨bQ, hq⟩ : ∃ q, w21.heap.size = q := ⟨_, rfl⟩
    obtain ⟨w22, hw⟩ : ∃ x, w21.alloc (.cells #[.int .i64 0, .slice Q qn qc] 24) = x := ⟨_, rfl⟩
    rw [hw] at BQ HW HA SQ ⊢
    rw [hq] at BQ  ⊢
    clear hb hw hq
    go_wp2_with fail
    refine (HF.out.det nn A n c xs _ HA.out HWN.out HFL.out).mono ?_
    rintro e w23 ⟨rfl, hb⟩
    replace HW := hide (HW.out.trans (hb.mono HW.out.size))
    replace HA := hide (HA.out.below hb)
    replace SQ := hide (SQ.out.below hb)
    replace BQ := hide (BQ.out.below hb BQ.out.lt)
    rw [HE1.out, HE2.out.2]
    clear hb
    have hq0 := BQ.out.cell 0
    have hq1 := BQ.out.cell 1
    simp at hq0 hq1
    go_wp2_with fail
    refine (ref_lit 0 [] _ Q qn qc none 0 0 SQ.out (SL.nil_ _)).mono ?_
    rintro e w24 ⟨rfl, hb⟩
    replace HW := hide (HW.out.trans (hb.mono HW.out.size))
    replace HA := hide (HA.out.below hb)
    replace SQ := hide (SQ.out.below hb)
    replace BQ := hide (BQ.out.below hb BQ.out.lt)
    clear hb hq0 hq1
    go_wp2_with fail
    go_ret
    exact ⟨rfl, HW.out⟩
  have d1 : decide ((20 : Int) < (n : Int)) = false := by simp; omega
  have d2 : decide (20 < n) = false := by simpa using h20
  by_cases h14 : 14 < n
  case pos =>
    have d3 : decide ((14 : Int) < (n : Int)) = true := by simp; omega
    have d4 : decide (14 < n) = true := by simpa using h14
    clear hbf hlen h20 h14
    go_wp2_with fail
    go_ret
    exact ⟨rfl, HW.out⟩
  have d3 : decide ((14 : Int) < (n : Int)) = false := by simp; omega
  have d4 : decide (14 < n) = false := by simpa using h14
  have hz := bfault_zero hbf
  obtain ⟨N, rfl⟩ : ∃ N : Nat, nn = (N : Int) := ⟨nn.toNat, by omega⟩
  have hN1 : 1 ≤ N := by omega
  have hN6 : N ≤ 6 := by omega
  have hok : okB N xs := fun x hx => by have := hz.2.2.2 x hx; omega
  have hE := alE_ok hbf (show xs.length ≤ 20 by omega)
  have HE1 := hide hE
  have HFL : Hid (alF (N : Int) xs) := hide (alF_short (by omega))
  have HCE : Hid (CE (adet N xs) 16 75626922) := hide (by
    obtain ⟨M, rfl⟩ : ∃ M, N = M + 1 := ⟨N - 1, by omega⟩
    exact adet_16 (by omega) hok (by omega))
  have HAP : Hid (alP (N : Int) xs = LP.normC (LP.canon (adet N xs)).2) := hide (by unfold alP; rw [if_pos hE, Int.toNat_natCast])
  have HDV : Hid (alD (N : Int) xs = (altP (LP.normC (LP.canon (adet N xs)).2) (LP.normC (LP.canon (adet N xs)).2).length).natAbs) := hide (by unfold alD; rw [HAP.out])
  have HMI := hide (fun (w : World) (h : SL w A n c xs) => minor_any N hN1 hN6 A n c xs w h (by omega) hok)
  have hCM := canon_mem HCE.out
  have HNM := hide (normC_mem hCM.2)
  have HNL : Hid ((LP.normC (LP.canon (adet N xs)).2).length ≤ 33) := hide (by unfold LP.normC; rw [List.length_map]; omega)
  have HVV := hide (fun (c : Int) (h : c ∈ (LP.canon (adet N xs)).2) => (Nat.le_trans (hCM.2 c h) (by decide) : c.natAbs ≤ 4000000000000000000))
  have HAT := hide (adet_tab N xs)
  have hmx : max n 1 ≤ 40 := by omega
  clear hbf hz hok hE hCM h20 h14
  go_wp2_with fail
  refine (HF.out.poly (N : Int) A n c xs _ HA.out HWN.out HFL.out).mono ?_
  rintro e w31 ⟨Q, qn, qc, rfl, hs, hn, hb⟩
  replace HW := hide (HW.out.trans (hb.mono HW.out.size))
  replace HA := hide (HA.out.below hb)
  dsimp only at hs ⊢
  rw [HE1.out]
  rw [HAP.out] at hs
  have SQ := hide hs
  clear hb hs hn
  go_upto_region 10 with fail
  have hb : Below w31.heap.size w31 (w31.alloc (.cells #[.int .i64 0, .slice Q qn qc] 24)) := (Below.refl _ _).alloc (Nat.le_refl _) _
  have BQ := hide (Blk.new w31 24 #[.int .i64 0, .slice Q qn qc])
  replace HW := hide (HW.out.trans (hb.mono HW.out.size))
  replace HA := hide (HA.out.below hb)
  replace SQ := hide (SQ.out.below hb)
  obtain ⟨bQ, hq⟩ : ∃ q, w31.heap.size = q := ⟨_, rfl⟩
  obtain ⟨w32, hw⟩ : ∃ x, w31.alloc (.cells #[.int .i64 0, .slice Q qn qc] 24) = x := ⟨_, rfl⟩
  rw [hw] at BQ HW HA SQ ⊢
  rw [hq] at BQ  ⊢
  clear hb hw hq
  go_wp2_with fail
  refine (HF.out.det (N : Int) A n c xs _ HA.out HWN.out HFL.out).mono ?_
  rintro e w33 ⟨rfl, hb⟩
  replace HW := hide (HW.out.trans (hb.mono HW.out.size))
  replace HA := hide (HA.out.below hb)
  replace SQ := hide (SQ.out.below hb)
  replace BQ := hide (BQ.out.below hb BQ.out.lt)
  rw [HE1.out, HDV.out]
  clear hb
  go_wp2_with fail
  refine (HMI.out _ HA.out).mono ?_
  rintro e w34 ⟨go, gr, mb, rfl, hM, hG, hbb, hb⟩
  replace HW := hide (HW.out.trans (hb.mono HW.out.size))
  replace HA := hide (HA.out.below hb)
  replace SQ := hide (SQ.out.below hb)
  replace BQ := hide (BQ.out.below hb BQ.out.lt)
  have hrd := (((hM.mono hmx).rdK hG hbb).mono (QS_ok (QT_ok 40) 1) (K' := fun b => b < w34.heap.size) fun b hl hk => hk.2)
  have HRD := hide hrd
  clear hb hM hG hbb hrd
  go_wp2_with fail
  refine (polyDetW_any (some ⟨go, 0, none⟩) (N - 1) (N - 1) (tabP (N - 1) (aM N xs)) _ HRD.out (fun i hi => tabP_len _ _ hi) (by omega)).mono ?_
  rintro e w35 ⟨tb, rfl, htb, htv, hb⟩
  replace HW := hide (HW.out.trans (hb.mono HW.out.size))
  replace HA := hide (HA.out.below hb)
  replace SQ := hide (SQ.out.below hb)
  replace BQ := hide (BQ.out.below hb BQ.out.lt)
  rw [HAT.out] at htv
  have htv2 := htv.tv (fun k => Nat.le_trans (HCE.out.cf k) (by decide))
  obtain ⟨T, hmT, hTe, hTk⟩ := htv2
  have HMT := hide hmT
  have HTE := hide hTe
  have HTK := hide hTk
  clear hb htb htv hmT hTe hTk HRD
  have HNO := hide (fun (w : World) (h : MapI w tb T) => tnormal_any tb T 200 (by omega) w h HTK.out (by rw [HTE.out]; exact HVV.out))
  rw [HTE.out] at HNO
  clear HE1 HCE HAP HDV HMI HVV HAT HTK HTE
  generalize LP.normC (LP.canon (adet N xs)).2 = cs at *
  go_wp2_with fail
  refine (HNO.out _ HMT.out).mono ?_
  rintro e w36 ⟨R, rn, rc, rfl, hs, hn, hb⟩
  replace HW := hide (HW.out.trans (hb.mono HW.out.size))
  replace HA := hide (HA.out.below hb)
  replace SQ := hide (SQ.out.below hb)
  replace BQ := hide (BQ.out.below hb BQ.out.lt)
  replace HMT := hide (HMT.out.below hb)
  have SR := hide hs
  clear hb hs hn HNO
  clear HMT
  go_upto_region 16 with fail
  have hb : Below w36.heap.size w36 (w36.alloc (.cells #[.int .i64 0, .slice R rn rc] 24)) := (Below.refl _ _).alloc (Nat.le_refl _) _
  have BR := hide (Blk.new w36 24 #[.int .i64 0, .slice R rn rc])
  replace HW := hide (HW.out.trans (hb.mono HW.out.size))
  replace HA := hide (HA.out.below hb)
  replace SQ := hide (SQ.out.below hb)
  replace BQ := hide (BQ.out.below hb BQ.out.lt)
  replace SR := hide (SR.out.below hb)
  obtain ⟨bR, hq⟩ : ∃ q, w36.heap.size = q := ⟨_, rfl⟩
  obtain ⟨w37, hw⟩ : ∃ x, w36.alloc (.cells #[.int .i64 0, .slice R rn rc] 24) = x := ⟨_, rfl⟩
  rw [hw] at BR HW HA SQ BQ SR ⊢
  rw [hq] at BR  ⊢
  clear hb hw hq
  have hq0 := BQ.out.cell 0
  have hq1 := BQ.out.cell 1
  simp at hq0 hq1
  have hr0 := BR.out.cell 0
  have hr1 := BR.out.cell 1
  simp at hr0 hr1
  have hrl := SR.out.il.len
  have hnl := HNL.out
  have HAL := hide (altP_le HNM.out)
  have hrs := SR.out.il.small
  go_wp2_with fail
  go_loop [13, 14, 15, 84] (fun sv _ _ iv => ∃ k : Nat, k ≤ rn ∧ iv = .int .i64 k ∧ sv = .int .i64 (altP cs k)) (fun _ _ _ iv => rn - (intOf iv).toNat)
  case atStart => exact ⟨0, Nat.zero_le _, rfl, rfl⟩
  case round =>
    obtain ⟨k, hk, rfl, rfl⟩ := hrel
    by_cases hlt : k < rn
    · obtain ⟨ad, rfl, hcl⟩ := SR.out.il.at_ hlt
      have h1 := HAL.out k
      have h2 := HAL.out (k + 1)
      have h3 : k * 75626922 ≤ 33 * 75626922 := Nat.mul_le_mul_right _ (by omega)
      have h4 : (k + 1) * 75626922 ≤ 34 * 75626922 := Nat.mul_le_mul_right _ (by omega)
      have he : altP cs (k + 1) = altP cs k + cs.getD k 0 * (1 - 2 * ((k : Int) % 2)) := rfl
      obtain ⟨o, ho⟩ : ∃ o : Int, (k : Int) % 2 = o := ⟨_, rfl⟩
      have ho2 : o = 0 ∨ o = 1 := by omega
      rw [ho] at he
      obtain ⟨z, hz⟩ : ∃ z, cs.getD k 0 = z := ⟨_, rfl⟩
      rw [hz] at he hcl
      obtain ⟨s, hs⟩ : ∃ s, altP cs k = s := ⟨_, rfl⟩
      obtain ⟨t, ht⟩ : ∃ t, altP cs (k + 1) = t := ⟨_, rfl⟩
      rw [hs] at he h1 ⊢
      rw [ht] at he h2
      have HT := hide ht
      obtain ⟨p, hp⟩ : ∃ p, z * (1 - 2 * o) = p := ⟨_, rfl⟩
      rw [hp] at he
      have hand : bits BinOp.and IntKind.i64 (k : Int) 1 = o := by rw [i64_and1, ho]
      have hw1 : IntKind.i64.wrap (2 * o) = 2 * o := by rw [IntKind.wrap_i64]; omega
      have hw2 : IntKind.i64.wrap (1 - 2 * o) = 1 - 2 * o := by rw [IntKind.wrap_i64]; omega
      have hw3 : IntKind.i64.wrap (z * (1 - 2 * o)) = p := by rw [hp, IntKind.wrap_i64]; omega
      have hw4 : IntKind.i64.wrap (s + p) = t := by rw [IntKind.wrap_i64]; omega
      clear h1 h2 h3 h4 he ho hz hs ht hp
      go_wp2_with fail
      go_round
      case rel => exact ⟨k + 1, by omega, by go_num, by rw [HT.out]⟩
      case measure => simp [intOf]; omega
    · have hkn : k = cs.length := by omega
      have h1 := HAL.out k
      have h3 : k * 75626922 ≤ 33 * 75626922 := Nat.mul_le_mul_right _ (by omega)
      have HSV := hide (ref_lit 0 cs _ Q qn qc R rn rc SQ.out SR.out)
      have HLT := hide hlt
      rw [← hkn]
      obtain ⟨s, hs⟩ : ∃ s, altP cs k = s := ⟨_, rfl⟩
      rw [hs] at h1 ⊢
      have hneg : IntKind.i64.wrap (-s) = -s := by rw [IntKind.wrap_i64]; omega
      have hlt2 : ¬ k < rn := HLT.out
      obtain ⟨u, hu⟩ : ∃ u : Int, (s.natAbs : Int) = u := ⟨_, rfl⟩
      rw [hu]
      have hus : u = if s < -s then -s else s := by split <;> omega
      have HUS := hide hus
      clear hs hkn h1 h3 hrl hlen hnl hus hu
      go_wp2_with fail
      refine HSV.out.mono ?_
      rintro e w40 ⟨rfl, hb⟩
      replace HW := hide (HW.out.trans (hb.mono HW.out.size))
      clear hb HSV
      by_cases hc : s < -s
      · have hu2 : u = -s := by have := HUS.out; rwa [if_pos hc] at this
        subst hu2
        go_wp2_with fail
        go_ret
        exact ⟨rfl, HW.out⟩
      · have hu2 : u = s := by have := HUS.out; rwa [if_neg hc] at this
        subst hu2
        go_wp2_with fail
        go_ret
        exact ⟨rfl, HW.out⟩
end Go.Proofs.Ytgbipfohcailnaa
