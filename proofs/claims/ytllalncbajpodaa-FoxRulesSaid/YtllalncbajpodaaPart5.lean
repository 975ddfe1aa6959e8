/- Several texts of the walk in one. -/
import Derived.Test.YtllalncbajpodaaPart1
import Derived.Test.YtllalncbajpodaaPart2
import Derived.Test.YtllalncbajpodaaPart4
import Derived.Test.YtllalncbajpodaaPart3
import Derived.Test.YtllalncbajpodaaBase
import Derived.Laws.CopyOwn
import Derived.Deep.OwnRows
import Derived.Deep.DeepCutAuto
import Derived.Deep.LoopGhost
/- timbref1.Same of two equal polynomials. -/
namespace Go.Proofs.Ytllalncbajpodaa
set_option linter.unusedVariables false
set_option linter.unusedSimpArgs false
open Go.RowKit
theorem same_y (la : Int) (xs : List Int) (w : World) (A : Option Addr) (n c : Nat) (B : Option Addr) (m d : Nat) (ha : SL w A n c xs) (hb : SL w B m d xs) :
    Calls Try.prog 10 #[PV la A n c, PV la B m d] w fun e w' => e = .returned (.bool true) ∧ Below w.heap.size w w' := by
  have h := same_r la A n c xs la B m d xs w ha hb
  rw [show (decide (la = la) && eqB xs xs) = true by rw [eqB_true rfl]; simp] at h
  exact h
end Go.Proofs.Ytllalncbajpodaa
/- timblaw1.FoxDerives, for a package foxcalc that answers as it should. (Written by tools/gen_foxd.py.) -/
namespace Go.Proofs.Ytllalncbajpodaa
set_option linter.unusedVariables false
set_option linter.unusedSimpArgs false
open Go.RowKit

theorem fox_121 : foxR [1, 2, -1] 1 = (0, 0, [1, -1]) := by
  have h : LP.canon (LP.foxT 1 [1, 2, -1]) = (0, [1, -1]) := by
    refine LP.canon_eq (.inr ⟨by decide, by decide, by decide⟩) (LP.ext fun k => ?_)
    show LP.co (LP.term 0 1 + (LP.term 1 (-1) + 0)) k = LP.co ((1 : LP) + LP.term 1 1 * (0 + LP.term 1 1 * (LP.term (-1) (-1) + LP.term (-1) 1 * 0))) k
    rw [CR.mul_zero, CR.add_zero, CR.add_zero, CR.zero_add, LP.term_mul, LP.term_mul, LP.term_one]
    rfl
  unfold foxR
  rw [show ffault [1, 2, -1] = 0 from by decide, if_pos rfl, if_pos (by decide), h]

set_option maxRecDepth 100000 in
set_option maxHeartbeats 8000000 in
theorem foxDerives_any (F : FoxC) (A : Option Addr) (n c : Nat) (xs : List Int) (i : Int) (w : World) (ha : SL w A n c xs) (wi : (Lit.int .i64 i).wf = true) :
    Calls Try.prog 3 #[.slice A n c, .int .i64 i] w fun e w' => e = .returned (.bool true) ∧ Below w.heap.size w w' := by
  have HF := hide F
  have HWI := hide wi
  have HA := hide ha
  have HW := hide (Below.refl w.heap.size w)
  have HL := hide ha.il.len
  obtain ⟨fx, hfx⟩ : ∃ q, ffault xs = q := ⟨_, rfl⟩
  obtain ⟨ev, hev⟩ : ∃ q, expV xs = q := ⟨_, rfl⟩
  obtain ⟨⟨er, lr, cr⟩, hr⟩ : ∃ q, foxR xs i = q := ⟨_, rfl⟩
  have HFX := hide hfx
  have HEV := hide hev
  have HR := hide hr
  clear F wi ha hfx hev hr
  go_enter Try.func3, Try.ntmps3
  go_upto_region 1 with fail
  go_wp2_with fail
  refine (HF.out.exponent A n c xs _ HA.out).mono ?_
  rintro e w1 ⟨rfl, hb⟩
  rw [HFX.out, HEV.out]
  replace HA := hide (HA.out.below hb)
  replace HW := hide (HW.out.trans (hb.mono HW.out.size))
  clear hb
  go_upto_region 2 with fail
  go_wp2_with fail
  refine (HF.out.derivative A n c xs i _ HA.out HWI.out).mono ?_
  rintro e w2 ⟨Q, qn, qc, rfl, hs, hnw, hb⟩
  rw [HR.out] at hs ⊢
  dsimp only at hs ⊢
  replace HA := hide (HA.out.below hb)
  replace HW := hide (HW.out.trans (hb.mono HW.out.size))
  have SQ := hide hs
  clear hb hs hnw
  go_upto_region 3 with fail
  have hb : Below w2.heap.size w2 (w2.alloc (.cells #[.int .i64 lr, .slice Q qn qc] 27)) := (Below.refl _ _).alloc (Nat.le_refl _) _
  have B7 := hide (Blk.new w2 27 #[.int .i64 lr, .slice Q qn qc])
  replace HA := hide (HA.out.below hb)
  replace HW := hide (HW.out.trans (hb.mono HW.out.size))
  replace SQ := hide (SQ.out.below hb)
  obtain ⟨b7, hq⟩ : ∃ q, w2.heap.size = q := ⟨_, rfl⟩
  obtain ⟨w3, hw⟩ : ∃ x, w2.alloc (.cells #[.int .i64 lr, .slice Q qn qc] 27) = x := ⟨_, rfl⟩
  rw [hw] at B7 HA HW SQ ⊢
  rw [hq] at B7  ⊢
  clear hb hw hq
  go_wp2_with fail
  have hl := SL.lit w3 [1, 2, -1] (by decide) rfl rfl
  have hb0 : Below w3.heap.size w3 (w3.alloc (.cells #[.int .i64 1, .int .i64 2, .int .i64 (-1)] 3)) := (Below.refl _ _).alloc (Nat.le_refl _) _
  refine (HF.out.derivative _ 3 3 [1, 2, -1] 1 _ hl (by decide)).mono ?_
  rintro e w4 ⟨N, nn, nc, rfl, hs, hnw, hb⟩
  rw [fox_121] at hs ⊢
  dsimp only at hs ⊢
  replace hb := hb0.trans (hb.mono hb0.size)
  replace HA := hide (HA.out.below hb)
  replace HW := hide (HW.out.trans (hb.mono HW.out.size))
  replace SQ := hide (SQ.out.below hb)
  replace B7 := hide (B7.out.below hb B7.out.lt)
  have SN := hide hs
  clear hb hs hnw hl hb0
  go_upto_region 4 with fail
  have hb : Below w4.heap.size w4 (w4.alloc (.cells #[.int .i64 0, .slice N nn nc] 27)) := (Below.refl _ _).alloc (Nat.le_refl _) _
  have B9 := hide (Blk.new w4 27 #[.int .i64 0, .slice N nn nc])
  replace HA := hide (HA.out.below hb)
  replace HW := hide (HW.out.trans (hb.mono HW.out.size))
  replace SQ := hide (SQ.out.below hb)
  replace B7 := hide (B7.out.below hb B7.out.lt)
  replace SN := hide (SN.out.below hb)
  obtain ⟨b9, hq⟩ : ∃ q, w4.heap.size = q := ⟨_, rfl⟩
  obtain ⟨w5, hw⟩ : ∃ x, w4.alloc (.cells #[.int .i64 0, .slice N nn nc] 27) = x := ⟨_, rfl⟩
  rw [hw] at B9 HA HW SQ B7 SN ⊢
  rw [hq] at B9  ⊢
  clear hb hw hq
  go_wp2_with fail
  refine (free_fault_any A n c xs _ HA.out.il).mono ?_
  rintro e w6 ⟨rfl, hww⟩
  subst hww
  rw [HFX.out]
  go_upto_region 5 with fail
  go_upto_region 6 with fail
  have hqi := SQ.out.inside
  have hne := B7.out.lt
  have hbw := HW.out.size
  have hb : Below w5.heap.size w5 (w5.alloc (.cells #[.int .i64 0, .slice none 0 0] 27)) := (Below.refl _ _).alloc (Nat.le_refl _) _
  have B13 := hide (Blk.new w5 27 #[.int .i64 0, .slice none 0 0])
  replace HA := hide (HA.out.below hb)
  replace HW := hide (HW.out.trans (hb.mono HW.out.size))
  replace SQ := hide (SQ.out.below hb)
  replace B7 := hide (B7.out.below hb B7.out.lt)
  replace SN := hide (SN.out.below hb)
  replace B9 := hide (B9.out.below hb B9.out.lt)
  obtain ⟨b13, hq⟩ : ∃ q, w5.heap.size = q := ⟨_, rfl⟩
  obtain ⟨w7, hw⟩ : ∃ x, w5.alloc (.cells #[.int .i64 0, .slice none 0 0] 27) = x := ⟨_, rfl⟩
  rw [hw] at B13 HA HW SQ B7 SN B9 ⊢
  rw [hq] at B13 hqi hne hbw ⊢
  clear hb hw hq
  have HQI := hide (show 0 < qn → ∀ ad, Q = some ad → ad.block ≠ b13 from fun h ad e => by have := hqi h ad e; omega)
  have HNE := hide hne
  have HB13 := hide hbw
  clear hqi hne hbw
  by_cases h0 : fx = 0
  · subst h0
    obtain ⟨hxl, hxx⟩ := ffault_zero HFX.out
    have HXX := hide (fun x hx => by have := hxx x hx; omega : ∀ x ∈ xs, x ≠ 0 ∧ x.natAbs ≤ 1000)
    have hn60 : n ≤ 60 := by have := HL.out; omega
    have hev : LP.expo xs = ev := by rw [← HEV.out]; unfold expV; rw [HFX.out, if_pos rfl]
    have HX2 := hide hev
    clear hxl hxx hev
    go_wp2_with fail
    refine (weight_any A n c xs _ HA.out.il HXX.out).mono ?_
    rintro e w6 ⟨rfl, hww⟩
    replace hww := hww.symm
    subst hww
    rw [HX2.out]
    have hz0 := B9.out.cell 0
    have hz1 := B9.out.cell 1
    simp at hz0 hz1
    have hee : (ev != ev) = false := by simp
    go_wp2_with fail
    have hl := SL.lit w7 [1, -1] (by decide) rfl rfl
    have hb0 : Below w7.heap.size w7 (w7.alloc (.cells #[.int .i64 1, .int .i64 (-1)] 3)) := (Below.refl _ _).alloc (Nat.le_refl _) _
    refine (same_y 0 [1, -1] _ N nn nc _ 2 2 (SN.out.below hb0) hl).mono ?_
    rintro e w8 ⟨rfl, hb⟩
    replace hb := hb0.trans (hb.mono hb0.size)
    replace HA := hide (HA.out.below hb)
    replace HW := hide (HW.out.trans (hb.mono HW.out.size))
    replace SQ := hide (SQ.out.below hb)
    replace B7 := hide (B7.out.below hb B7.out.lt)
    replace SN := hide (SN.out.below hb)
    replace B9 := hide (B9.out.below hb B9.out.lt)
    replace B13 := hide (B13.out.below hb B13.out.lt)
    clear hb hl hb0 hz0 hz1
    by_cases hi1 : i < 1
    · have hr2 : er = 1 ∧ lr = 0 ∧ cr = [] := by have h := HR.out; unfold foxR at h; rw [HFX.out, if_pos rfl, if_neg (by omega)] at h; simp only [Prod.mk.injEq] at h; exact ⟨h.1.symm, h.2.1.symm, h.2.2.symm⟩
      obtain ⟨rfl, rfl, rfl⟩ := hr2
      have hd1 : decide (i < 1) = true := by simpa using hi1
      have HN60 := hide hn60
      clear hi1 hn60
      have hy0 := B7.out.cell 0
      have hy1 := B7.out.cell 1
      simp at hy0 hy1
      have hx0 := B13.out.cell 0
      have hx1 := B13.out.cell 1
      simp at hx0 hx1
      go_wp2_with fail
      refine (same_y 0 [] _ Q qn qc none 0 0 SQ.out (SL.nil_ _)).mono ?_
      rintro e w9 ⟨rfl, hb⟩
      replace HW := hide (HW.out.trans (hb.mono HW.out.size))
      clear hb hy0 hy1 hx0 hx1
      go_wp2_with fail
      go_ret
      exact ⟨rfl, HW.out⟩
    by_cases hi6 : 6 < i
    · have hr2 : er = 1 ∧ lr = 0 ∧ cr = [] := by have h := HR.out; unfold foxR at h; rw [HFX.out, if_pos rfl, if_neg (by omega)] at h; simp only [Prod.mk.injEq] at h; exact ⟨h.1.symm, h.2.1.symm, h.2.2.symm⟩
      obtain ⟨rfl, rfl, rfl⟩ := hr2
      have hd1 : decide (i < 1) = false := by simpa using hi1
      have hd6 : decide (6 < i) = true := by simpa using hi6
      have HN60 := hide hn60
      clear hi1 hi6 hn60
      have hy0 := B7.out.cell 0
      have hy1 := B7.out.cell 1
      simp at hy0 hy1
      have hx0 := B13.out.cell 0
      have hx1 := B13.out.cell 1
      simp at hx0 hx1
      go_wp2_with fail
      refine (same_y 0 [] _ Q qn qc none 0 0 SQ.out (SL.nil_ _)).mono ?_
      rintro e w9 ⟨rfl, hb⟩
      replace HW := hide (HW.out.trans (hb.mono HW.out.size))
      clear hb hy0 hy1 hx0 hx1
      go_wp2_with fail
      go_ret
      exact ⟨rfl, HW.out⟩
    have hr2 : er = 0 ∧ lr = (LP.canon (LP.foxT i xs)).1 ∧ cr = (LP.canon (LP.foxT i xs)).2 := by have h := HR.out; unfold foxR at h; rw [HFX.out, if_pos rfl, if_pos (by omega)] at h; simp only [Prod.mk.injEq] at h; exact ⟨h.1.symm, h.2.1.symm, h.2.2.symm⟩
    have her := hr2.1
    subst her
    have HR2 := hide hr2.2
    have HN60 := hide hn60
    have HI := hide (show 1 ≤ i ∧ i ≤ 6 by omega)
    have hd1 : decide (i < 1) = false := by simpa using hi1
    have hd6 : decide (6 < i) = false := by simpa using hi6
    clear hr2 hi1 hi6 hn60
    go_wp2_with fail
    refine (derived_any i HI.out n A n c xs _ HA.out (Nat.le_refl n) HN60.out HXX.out).mono ?_
    rintro e wd ⟨bt, tt, rfl, hg, hm, ht, hk, hb⟩
    replace HA := hide (HA.out.below hb)
    replace HW := hide (HW.out.trans (hb.mono HW.out.size))
    replace SQ := hide (SQ.out.below hb)
    replace B7 := hide (B7.out.below hb B7.out.lt)
    replace SN := hide (SN.out.below hb)
    replace B9 := hide (B9.out.below hb B9.out.lt)
    replace B13 := hide (B13.out.below hb B13.out.lt)
    have HM := hide hm
    have HT := hide ht
    have HK := hide hk
    clear hm ht hk hb hg
    go_wp2_with fail
    refine (tpoly_any bt tt n (by have := HN60.out; omega) _ HM.out HK.out).mono ?_
    rintro e we ⟨Z, zn, zc, rfl, hs, hnw, hb⟩
    have HZI := hide (show 0 < zn → ∀ ad, Z = some ad → ad.block ≠ b13 from fun h ad e => by have := hnw h ad e; have := B13.out.lt; omega)
    replace HA := hide (HA.out.below hb)
    replace HW := hide (HW.out.trans (hb.mono HW.out.size))
    replace SQ := hide (SQ.out.below hb)
    replace B7 := hide (B7.out.below hb B7.out.lt)
    replace SN := hide (SN.out.below hb)
    replace B9 := hide (B9.out.below hb B9.out.lt)
    replace B13 := hide (B13.out.below hb B13.out.lt)
    rw [HT.out, ← HR2.out.2] at hs
    rw [HT.out, ← HR2.out.1]
    have SZ := hide hs
    clear hb hs hnw HM HT HK
    have hx0 := B13.out.cell 0
    have hx1 := B13.out.cell 1
    simp at hx0 hx1
    have hy0 := B7.out.cell 0
    have hy1 := B7.out.cell 1
    simp at hy0 hy1
    have hf0 := B13.out.frozen 0
    have hf1 := B13.out.frozen 1
    have hlt := B13.out.lt
    have hne : b7 < b13 := HNE.out
    have SZ2 := hide ((SZ.out.setCell (b := b13) HZI.out 0 (.int .i64 lr)).setCell (b := b13) HZI.out 1 (.slice Z zn zc))
    have SQ2 := hide ((SQ.out.setCell (b := b13) HQI.out 0 (.int .i64 lr)).setCell (b := b13) HQI.out 1 (.slice Z zn zc))
    have HW2 := hide ((HW.out.setCell (p := ⟨b13, 0, none⟩) HB13.out (.int .i64 lr)).setCell (p := ⟨b13, 1, none⟩) HB13.out (.slice Z zn zc))
    go_wp2_with fail
    refine (same_y lr cr _ Q qn qc Z zn zc SQ2.out SZ2.out).mono ?_
    rintro e w9 ⟨rfl, hb⟩
    replace HW := hide (HW2.out.trans (hb.mono HW2.out.size))
    clear hb
    go_wp2_with fail
    go_ret
    exact ⟨rfl, HW.out⟩
  · have hbt : (fx == 0) = false := by simpa using h0
    have hr2 : er = fx ∧ lr = 0 ∧ cr = [] := by have h := HR.out; unfold foxR at h; rw [HFX.out, if_neg h0] at h; simp only [Prod.mk.injEq] at h; exact ⟨h.1.symm, h.2.1.symm, h.2.2.symm⟩
    obtain ⟨rfl, rfl, rfl⟩ := hr2
    have hev : ev = 0 := by rw [← HEV.out]; unfold expV; rw [HFX.out, if_neg h0]
    subst hev
    clear h0
    have hz0 := B9.out.cell 0
    have hz1 := B9.out.cell 1
    simp at hz0 hz1
    go_wp2_with fail
    have hl := SL.lit w7 [1, -1] (by decide) rfl rfl
    have hb0 : Below w7.heap.size w7 (w7.alloc (.cells #[.int .i64 1, .int .i64 (-1)] 3)) := (Below.refl _ _).alloc (Nat.le_refl _) _
    refine (same_y 0 [1, -1] _ N nn nc _ 2 2 (SN.out.below hb0) hl).mono ?_
    rintro e w8 ⟨rfl, hb⟩
    replace hb := hb0.trans (hb.mono hb0.size)
    replace HA := hide (HA.out.below hb)
    replace HW := hide (HW.out.trans (hb.mono HW.out.size))
    replace SQ := hide (SQ.out.below hb)
    replace B7 := hide (B7.out.below hb B7.out.lt)
    replace SN := hide (SN.out.below hb)
    replace B9 := hide (B9.out.below hb B9.out.lt)
    replace B13 := hide (B13.out.below hb B13.out.lt)
    clear hb hl hb0 hz0 hz1
    have hy0 := B7.out.cell 0
    have hy1 := B7.out.cell 1
    simp at hy0 hy1
    have hx0 := B13.out.cell 0
    have hx1 := B13.out.cell 1
    simp at hx0 hx1
    go_wp2_with fail
    refine (same_y 0 [] _ Q qn qc none 0 0 SQ.out (SL.nil_ _)).mono ?_
    rintro e w9 ⟨rfl, hb⟩
    replace HW := hide (HW.out.trans (hb.mono HW.out.size))
    clear hb hy0 hy1 hx0 hx1
    go_wp2_with fail
    go_ret
    exact ⟨rfl, HW.out⟩
end Go.Proofs.Ytllalncbajpodaa
/- timbref1.Opposite: the inverse word. -/
namespace Go.Proofs.Ytllalncbajpodaa
set_option linter.unusedVariables false
set_option linter.unusedSimpArgs false
open Go.RowKit

/-- The last k letters of the inverse word. -/
def oppK (xs : List Int) (k : Nat) : List Int := (List.range xs.length).map fun p => if xs.length - 1 - p < k then -(xs.getD (xs.length - 1 - p) 0) else 0
theorem oppK_length (xs : List Int) (k : Nat) : (oppK xs k).length = xs.length := by simp [oppK]
theorem oppK_getD (xs : List Int) (k : Nat) {p : Nat} (hp : p < xs.length) : (oppK xs k).getD p 0 = if xs.length - 1 - p < k then -(xs.getD (xs.length - 1 - p) 0) else 0 := by
  simp [oppK, List.getD, hp]
theorem listI_ext2 {a b : List Int} (hl : a.length = b.length) (h : ∀ i, i < a.length → a.getD i 0 = b.getD i 0) : a = b := by
  refine List.ext_getElem hl fun i h1 h2 => ?_
  have := h i h1
  simpa [List.getD, List.getElem?_eq_getElem h1, List.getElem?_eq_getElem h2] using this
theorem oppK_zero (xs : List Int) : oppK xs 0 = List.replicate xs.length 0 := by
  refine listI_ext2 (by simp [oppK]) fun i hi => ?_
  rw [oppK_length] at hi
  rw [oppK_getD xs 0 hi, if_neg (by omega)]
  simp [List.getD, hi]
theorem oppK_set (xs : List Int) {k : Nat} (hk : k < xs.length) : (oppK xs k).set (xs.length - 1 - k) (-(xs.getD k 0)) = oppK xs (k + 1) := by
  refine listI_ext2 (by simp [oppK]) fun i hi => ?_
  rw [List.length_set, oppK_length] at hi
  rw [oppK_getD xs (k + 1) hi]
  have hs : ((oppK xs k).set (xs.length - 1 - k) (-(xs.getD k 0))).getD i 0 = if i = xs.length - 1 - k then -(xs.getD k 0) else (oppK xs k).getD i 0 := by
    simp only [List.getD, List.getElem?_set]
    by_cases e : i = xs.length - 1 - k
    · have : xs.length - 1 - k < (oppK xs k).length := by rw [oppK_length]; omega
      rw [if_pos e.symm, if_pos e, if_pos this]
      rfl
    · rw [if_neg (fun h => e h.symm), if_neg e]
  rw [hs]
  by_cases e : i = xs.length - 1 - k
  · rw [if_pos e, if_pos (by omega), show xs.length - 1 - i = k by omega]
  · rw [if_neg e, oppK_getD xs k hi]
    by_cases h1 : xs.length - 1 - i < k
    · rw [if_pos h1, if_pos (by omega)]
    · rw [if_neg h1, if_neg (by omega)]
theorem oppK_end (xs : List Int) : oppK xs xs.length = invw xs := by
  refine listI_ext2 (by rw [oppK_length, invw_length]) fun i hi => ?_
  rw [oppK_length] at hi
  rw [oppK_getD xs _ hi, if_pos (by omega)]
  unfold invw
  simp only [List.getD]
  rw [List.getElem?_reverse (by simpa using hi), List.length_map, List.getElem?_map, List.getElem?_eq_getElem (show xs.length - 1 - i < xs.length by omega)]
  rfl

end Go.Proofs.Ytllalncbajpodaa
/- slices.Repeat. -/
namespace Go.Proofs.Ytllalncbajpodaa
set_option linter.unusedVariables false
set_option linter.unusedSimpArgs false
open Go.RowKit

theorem splice_map {f : Int → Value} (L : List Int) (off : Nat) (cs : List Int) : splice (L.map f) off (cs.map f) = (splice L off cs).map f := by
  simp [splice, List.map_take, List.map_drop]
/-- n elements of the repeated list, then zeros. -/
def repZ (xs : List Int) (k n : Nat) : List Int := (rep xs k).take n ++ List.replicate ((rep xs k).length - n) 0
theorem repZ_length (xs : List Int) (k n : Nat) (h : n ≤ (rep xs k).length) : (repZ xs k n).length = (rep xs k).length := by
  simp [repZ]; omega
theorem repZ_zero (xs : List Int) (k : Nat) : repZ xs k 0 = List.replicate (rep xs k).length 0 := by simp [repZ]
theorem repZ_end (xs : List Int) (k : Nat) : repZ xs k (rep xs k).length = rep xs k := by simp [repZ]
theorem repZ_first (xs : List Int) (k : Nat) (hk : 0 < k) : splice (repZ xs k 0) 0 xs = repZ xs k xs.length := by
  obtain ⟨k, rfl⟩ : ∃ j, k = j + 1 := ⟨k - 1, by omega⟩
  simp [splice, repZ, rep_succ]
theorem repZ_step (xs : List Int) (k q m : Nat) (hq : q ≤ k) (hm : q * xs.length + m ≤ (rep xs k).length) (hmq : m ≤ q * xs.length) :
    splice (repZ xs k (q * xs.length)) (q * xs.length) ((rep xs k).take m) = repZ xs k (q * xs.length + m) := by
  have hl := rep_length xs k
  have hlq := rep_length xs q
  have e0 : rep xs k = rep xs q ++ rep xs (k - q) := by rw [← rep_add]; congr 1; omega
  have e0' : rep xs k = rep xs (k - q) ++ rep xs q := by rw [← rep_add]; congr 1; omega
  have hl2 := rep_length xs (k - q)
  have e1 : (rep xs k).take (q * xs.length) = rep xs q := by rw [e0, List.take_append_of_le_length (by omega), List.take_of_length_le (by omega)]
  have hlen : (rep xs k).length = (rep xs q).length + (rep xs (k - q)).length := by
    conv => lhs; rw [e0]
    exact List.length_append
  have e2 : (rep xs k).take (q * xs.length + m) = rep xs q ++ (rep xs k).take m := by
    conv => lhs; rw [e0]
    rw [List.take_append, List.take_of_length_le (by omega)]
    congr 1
    rw [e0', List.take_append_of_le_length (by omega)]
    congr 1
    omega
  unfold repZ
  rw [e1, e2]
  unfold splice
  rw [List.take_append_of_le_length (by omega), List.take_of_length_le (by omega), List.append_assoc]
  congr 1
  congr 1
  rw [List.drop_append, List.drop_of_length_le (by omega), List.nil_append, List.drop_replicate]
  congr 1
  simp only [List.length_take]
  omega
theorem OwnI.ofRow {w : World} {base g n : Nat} {xs : List Int} (hb : base ≤ g) (h : w.heap[g]? = some (.cells (xs.map (Value.int .i64)).toArray 3 (0, 0))) (hn : xs.length = n) (hs : n ≤ 17592186044416) : OwnI w base (some ⟨g, 0, none⟩) n n xs := by
  refine ⟨⟨by simpa using hn, .inr ⟨g, n, _, rfl, hb, h, Nat.le_refl _, by unfold maxLen; omega, ?_, ?_⟩⟩, hs⟩
  · simp [hn]
  · rw [← hn]; exact List.take_of_length_le (by simp)
theorem il_ofRow {w : World} {g : Nat} {xs : List Int} (h : w.heap[g]? = some (.cells (xs.map (Value.int .i64)).toArray 3 (0, 0))) (j : Nat) (v : Value) (m : Nat) (hv : ((xs.take m).map (Value.int .i64))[j]? = some v) : w.cell? ((⟨g, 0, none⟩ : Addr).add j) = some v := by
  rw [add_zero_block, cell_of_row w g j _ _ _ h]
  have hj := (List.getElem?_eq_some_iff.1 hv).1
  simp only [List.length_map, List.length_take] at hj
  rw [← hv]
  simp [List.getElem?_map, List.getElem?_take, show j < m by omega]
theorem ints_one (xs : List Int) : ∀ v ∈ xs.map (Value.int .i64), v.oneCell' = true := by
  intro v hv
  obtain ⟨x, _, rfl⟩ := List.mem_map.1 hv
  rfl

theorem made_zeros (N : Nat) : madeCells #[.int .i64 0] N = ((List.replicate N (0 : Int)).map (Value.int .i64)).toArray := by
  apply Array.ext
  · simp [size_madeCells]
  · intro i h1 h2
    simp [madeCells, Nat.mod_one]
theorem made_row (w : World) (xs : List Int) (k N : Nat) (h : (rep xs k).length = N) : (w.alloc (.cells (madeCells #[.int .i64 0] N) 3)).heap[w.heap.size]? = some (.cells ((repZ xs k 0).map (Value.int .i64)).toArray 3 (0, 0)) := by
  rw [repZ_zero, h, made_zeros]
  exact heap_alloc_new w _
theorem IL.cells_ {w : World} {A : Option Addr} {n : Nat} {xs : List Int} (h : IL w A n xs) (h0 : 0 < n) : ∃ ad, A = some ad ∧ ∀ j v, (xs.map (Value.int .i64))[j]? = some v → w.cell? (ad.add j) = some v := by
  obtain ⟨ad, e, _, hc⟩ := h.mem h0
  refine ⟨ad, e, fun j v hv => ?_⟩
  have hj := (List.getElem?_eq_some_iff.1 hv).1
  have hl := h.len
  simp only [List.length_map] at hj
  rw [hc j (by omega), ← hv, List.getElem?_map, List.getElem?_eq_getElem hj]
  simp [List.getD, List.getElem?_eq_getElem hj]

end Go.Proofs.Ytllalncbajpodaa
/- slices.Delete of two elements of a slice that the call owns. -/
namespace Go.Proofs.Ytllalncbajpodaa
set_option linter.unusedVariables false
set_option linter.unusedSimpArgs false
open Go.RowKit

/-- The list without its elements i and i + 1. -/
def without2 (xs : List Int) (i : Nat) : List Int := xs.take i ++ xs.drop (i + 2)
theorem without2_length {xs : List Int} {i : Nat} (h : i + 2 ≤ xs.length) : (without2 xs i).length = xs.length - 2 := by simp [without2]; omega
theorem deleted2 {xs : List Int} {n i : Nat} (hl : xs.length = n) (hi : i + 2 ≤ n) : (((setMany xs i (xs.drop (i + 2))).set (n - 2) 0).set (n - 2 + 1) 0).take (n - 2) = without2 xs i := by
  have hx : (setMany xs i (xs.drop (i + 2))).length = n := by rw [setMany_length, hl]
  apply List.ext_getElem?
  intro j
  by_cases hj : j < n - 2
  · rw [List.getElem?_take, if_pos hj, List.getElem?_set, if_neg (by omega), List.getElem?_set, if_neg (by omega)]
    have h1 := setMany_getD (xs.drop (i + 2)) xs i j (by simp; omega)
    have h2 : ((setMany xs i (xs.drop (i + 2)))[j]?) = some ((setMany xs i (xs.drop (i + 2))).getD j 0) := by
      simp [List.getD, List.getElem?_eq_getElem (show j < (setMany xs i (xs.drop (i + 2))).length by omega)]
    rw [h2, h1]
    have h3 : (without2 xs i)[j]? = some ((without2 xs i).getD j 0) := by
      simp [List.getD, List.getElem?_eq_getElem (show j < (without2 xs i).length by rw [without2_length (by omega)]; omega)]
    rw [h3]
    congr 1
    by_cases hji : j < i
    · rw [if_neg (by omega)]
      simp only [without2, List.getD, List.getElem?_append, List.length_take, List.getElem?_take]
      rw [if_pos (by omega), if_pos hji]
    · rw [if_pos (by simp; omega)]
      simp only [without2, List.getD, List.getElem?_append, List.length_take, List.getElem?_drop]
      rw [if_neg (by omega), show min i xs.length = i from by omega]
  · rw [List.getElem?_eq_none (by simp; omega), List.getElem?_eq_none (by rw [without2_length (by omega)]; omega)]

theorem run_clear_two (w : World) (ty : TypeId) (b o cap : Nat) {v v' : Value} (hc : w.cell? ⟨b, o, none⟩ = some v) (hf : w.frozen? ⟨b, o, none⟩ = false) (hc' : (w.setCell ⟨b, o, none⟩ (.int .i64 0)).cell? ⟨b, o + 1, none⟩ = some v') (hf' : (w.setCell ⟨b, o, none⟩ (.int .i64 0)).frozen? ⟨b, o + 1, none⟩ = false) :
    (Builtin.clear_ #[22] ty #[.slice (some ⟨b, o, none⟩) 2 cap]).run Try.prog w = .ok (.tuple #[]) ((w.setCell ⟨b, o, none⟩ (.int .i64 0)).setCell ⟨b, o + 1, none⟩ (.int .i64 0)) := by
  obtain ⟨i0, hi0, hz0, hz1, hz2⟩ := info_parts int_info
  have e : (⟨b, o, none⟩ : Addr).add 1 = ⟨b, o + 1, none⟩ := by simp [Addr.add]
  simp [Builtin.clear_, run_underlying Try.underlying22, zeroValue, typeInfo, hi0, hz0, storeCells, Builtin.zeroCells, go_sem, hc, hf, e, hc', hf']
theorem run_clear_tail2 (w : World) (ty : TypeId) {base g n c i m d : Nat} {xs : List Int} (h : OwnI w base (some ⟨g, 0, none⟩) n c xs) (hi : i + 2 = n) (hm : m = 2) :
    (Builtin.clear_ #[22] ty #[.slice (some ⟨g, i, none⟩) m d]).run Try.prog w = .ok (.tuple #[]) ((w.setCell ⟨g, i, none⟩ (.int .i64 0)).setCell ⟨g, i + 1, none⟩ (.int .i64 0)) := by
  subst hm
  exact run_clear_two w ty g i d (h.cell (by omega)) (h.frozen i) ((h.set_ i 0).cell (by omega)) ((h.set_ i 0).frozen (i + 1))

end Go.Proofs.Ytllalncbajpodaa
/- timbref1.Short: the reduced form. -/
namespace Go.Proofs.Ytllalncbajpodaa
set_option linter.unusedVariables false
set_option linter.unusedSimpArgs false
open Go.RowKit

/-- The word, reduced from letter k on. -/
def shK (xs : List Int) (k : Nat) : List Int := xs.take k ++ nf (xs.drop k)
theorem shK_succ {xs : List Int} {i : Nat} (h : i < xs.length) : shK xs (i + 1) = xs.take i ++ xs.getD i 0 :: nf (xs.drop (i + 1)) := by
  unfold shK
  rw [List.take_succ_eq_append_getElem h, List.append_assoc]
  simp [List.getD, List.getElem?_eq_getElem h]
theorem shK_cns {xs : List Int} {i : Nat} (h : i < xs.length) : shK xs i = xs.take i ++ cns (xs.getD i 0) (nf (xs.drop (i + 1))) := by
  unfold shK
  rw [List.drop_eq_getElem_cons h]
  rw [show xs.getD i 0 = xs[i] by simp [List.getD, List.getElem?_eq_getElem h]]
  rfl
theorem getD_mid (a : List Int) (x : Int) (t : List Int) : (a ++ x :: t).getD a.length 0 = x := by simp [List.getD]
theorem getD_mid2 (a : List Int) (x y : Int) (t : List Int) : (a ++ x :: y :: t).getD (a.length + 1) 0 = y := by
  simp only [List.getD]
  rw [List.getElem?_append_right (by omega)]
  simp
theorem without2_mid (a : List Int) (x y : Int) (t : List Int) : without2 (a ++ x :: y :: t) a.length = a ++ t := by
  unfold without2
  rw [List.take_left, List.drop_append, List.drop_of_length_le (by omega), show a.length + 2 - a.length = 2 by omega]
  simp

end Go.Proofs.Ytllalncbajpodaa
/- timbref1.Core: the cyclically reduced part. -/
namespace Go.Proofs.Ytllalncbajpodaa
set_option linter.unusedVariables false
set_option linter.unusedSimpArgs false
open Go.RowKit

theorem coreN_fuel : ∀ (k n : Nat) (w : List Int), w.length ≤ k → w.length ≤ n → coreN n w = core w
  | 0, n, w, hk, h => by
    have : w = [] := List.eq_nil_of_length_eq_zero (by omega)
    subst this
    cases n with
    | zero => rfl
    | succ n => simp [core, coreN]
  | k + 1, n, w, hk, h => by
    by_cases hc : 1 < w.length ∧ w.getD 0 0 = -w.getD (w.length - 1) 0
    · have hl := inner_length hc.1
      obtain ⟨n', rfl⟩ : ∃ n', n = n' + 1 := ⟨n - 1, by omega⟩
      obtain ⟨m, hm⟩ : ∃ m, w.length = m + 1 := ⟨w.length - 1, by omega⟩
      unfold core
      rw [hm]
      simp only [coreN]
      rw [if_pos hc, if_pos hc, coreN_fuel k n' _ (by omega) (by omega), coreN_fuel k m _ (by omega) (by omega)]
    · have h1 : ∀ n, coreN n w = (w, []) := fun n => by
        cases n with
        | zero => rfl
        | succ n => simp only [coreN]; rw [if_neg hc]
      unfold core
      rw [h1, h1]
theorem core_step {w : List Int} (h1 : 1 < w.length) (h2 : w.getD 0 0 = -w.getD (w.length - 1) 0) : core w = ((core w.tail.dropLast).1, w.getD 0 0 :: (core w.tail.dropLast).2) := by
  have hl := inner_length h1
  obtain ⟨m, hm⟩ : ∃ m, w.length = m + 1 := ⟨w.length - 1, by omega⟩
  show coreN w.length w = _
  rw [hm]
  simp only [coreN]
  rw [if_pos ⟨h1, h2⟩, coreN_fuel _ m _ (Nat.le_refl _) (by omega)]
theorem core_stop {w : List Int} (h : ¬ (1 < w.length ∧ w.getD 0 0 = -w.getD (w.length - 1) 0)) : core w = (w, []) := by
  show coreN w.length w = _
  cases w.length with
  | zero => rfl
  | succ n => simp only [coreN]; rw [if_neg h]
theorem OwnI.capMax {w : World} {base n c : Nat} {A : Option Addr} {xs : List Int} (h : OwnI w base A n c xs) : c ≤ 9223372036854775807 := by
  rcases h.own.2 with ⟨hv, _⟩ | ⟨g', cap, cur, hv, _, _, _, hcm, _⟩
  · simp only [Value.slice.injEq] at hv
    omega
  · simp only [Value.slice.injEq, true_and] at hv
    obtain ⟨_, _, rfl⟩ := hv
    unfold maxLen at hcm
    exact hcm
theorem IL.mid {w : World} {ad : Addr} {n k m : Nat} {xs : List Int} (h : IL w (some ad) n xs) (hk : k + m ≤ n) : IL w (some (ad.add k)) m ((xs.drop k).take m) := by
  have hl := h.len
  refine ⟨by simp; omega, by have := h.small; omega, fun h0 => ?_⟩
  obtain ⟨ad', e, hlt, hc⟩ := h.mem (by omega)
  injection e with e
  subst e
  refine ⟨ad.add k, rfl, by rw [block_of_add]; exact hlt, fun j hj => ?_⟩
  rw [add_of_add, hc (k + j) (by omega)]
  simp [List.getD, List.getElem?_take, List.getElem?_drop, hj]
theorem inner_eq {w : List Int} (h : 1 < w.length) : w.tail.dropLast = (w.drop 1).take (w.length - 2) := by
  rw [List.dropLast_eq_take, List.drop_one, List.length_tail]
  congr 1

end Go.Proofs.Ytllalncbajpodaa
/- slices.Grow of nil; slices.Concat. -/
namespace Go.Proofs.Ytllalncbajpodaa
set_option linter.unusedVariables false
set_option linter.unusedSimpArgs false
open Go.RowKit

theorem run_append_zeros (w : World) (ty : TypeId) (n : Nat) (h0 : 0 < n) (hn : n ≤ 1000000) :
    (Builtin.append_ #[22, 3] ty #[.slice none 0 0, .int .i64 n]).run Try.prog w =
      .ok (.slice (some ⟨w.heap.size, 0, none⟩) n (grownCap w n 0 3)) (w.drew.alloc (.cells (Builtin.zeroCells #[.int .i64 0] n ++ Builtin.zeroCells #[.int .i64 0] (grownCap w n 0 3 - n)) 3)) := by
  obtain ⟨i0, hi0, hz0, hz1, hz2⟩ := info_parts int_info
  have hn' : n ≠ 0 := by omega
  have hwr : IntKind.i64.wrap (n : Int) = n := by rw [IntKind.wrap_i64]; omega
  have h63' : ¬ (9223372036854775807 < (n : Int)) := by omega
  have hneg : ¬ ((n : Int) < 0) := by omega
  have h48b : ¬ (281474976710656 < (n : Int) * 8) := by omega
  have hint : ∀ w : World, (asInt (.int .i64 (n : Int))).run Try.prog w = .ok (n : Int) w := fun w => rfl
  have h48' : ¬ (281474976710656 < Builtin.nextslicecap n 0 * 8) := by rw [nextslicecap_zero h0]; omega
  have hnp : ¬ ((n : Int) ≤ 0) := by omega
  simp [Builtin.append_, run_underlying Try.underlying22, run_underlying Try.underlying3, sizeOf, typeInfo, zeroValue, hi0, hz0, hz1, hz2, hint, hwr, hneg, h48b, hn', h63', h48', Question.forced, run_firstCells_none, newRow, grownCap, Value.cells]

theorem wpList_append_zeros {ops : Array Oper} {rest : List Oper} {o : Oper} {a : Act} {w : World} {Q : Exit → Act → World → Prop} (hgd : o.guard = none) (s x : Operand)
    (ho : o.op = .call { callee := .builtin .append, args := #[s, x], argTypes := #[22, 3] }) (n : Nat) (h0 : 0 < n) (hn : n ≤ 1000000) (hs : a.eval s = .slice none 0 0) (hx : a.eval x = .int .i64 n)
    (h : wpList Try.prog ops Q rest (a.put o.dst (.slice (some ⟨w.heap.size, 0, none⟩) n (grownCap w n 0 3))) (w.drew.alloc (.cells (Builtin.zeroCells #[.int .i64 0] n ++ Builtin.zeroCells #[.int .i64 0] (grownCap w n 0 3 - n)) 3))) : wpList Try.prog ops Q (o :: rest) a w :=
  wpList_plain hgd fun _ hK => by
    unfold Oper.wp execOp
    simp only [ho, resolve, invoke, builtin, Sem.run_bind, Sem.run_pure, Result.andThen_ok, List.map_toArray, List.map_cons, List.map_nil, hs, hx, run_append_zeros w o.type n h0 hn]
    exact hK _ _ h
theorem zeroCells_size (n : Nat) : (Builtin.zeroCells #[.int .i64 0] n).size = n := by simp [Builtin.zeroCells]
set_option maxHeartbeats 1000000 in
theorem grow_any (n : Nat) (w : World) (hn : n ≤ 1000000) :
    Calls Try.prog 39 #[.slice none 0 0, .int .i64 n] w (GivesOwn w []) := by
  rcases Nat.eq_zero_or_pos n with h0 | h0
  · subst h0
    go_enter Try.func39, Try.ntmps39
    go_wp2
    go_ret
    exact ⟨none, 0, 0, rfl, OwnI.nil_ _ _, Below.refl _ _⟩
  · go_enter Try.func39, Try.ntmps39
    go_wp2_with (at_builtin; refine wpList_append_zeros rfl (.tmp 20) (.tmp 21) rfl n h0 hn rfl rfl ?_)
    go_ret
    have hge := grownCap_ge w n 0 3
    have hle := grownCap_le_maxLen w n 0 3 (by unfold maxLen; omega)
    refine ⟨some ⟨w.heap.size, 0, none⟩, 0, grownCap w n 0 3, rfl, ⟨⟨rfl, .inr ⟨w.heap.size, _, _, rfl, Nat.le_refl _, heap_alloc_new w.drew _, by omega, hle, ?_, ?_⟩⟩, by omega⟩, ((Below.refl _ _).drew).alloc (Nat.le_refl _) _⟩
    · simp only [Array.size_append, zeroCells_size]
      omega
    · simp

set_option maxRecDepth 100000 in
set_option maxHeartbeats 1000000 in
theorem concat_any (A : Option Addr) (l c : Nat) (xss : List (List Int)) (w : World) (ha : ILL w A l xss) (hs : xss.flatten.length ≤ 1000000) :
    Calls Try.prog 20 #[.slice A l c] w (GivesOwn w xss.flatten) := by
  have hl := ha.len
  have hls := ha.small
  have HA := hide ha
  have HL := hide hl
  have HFL := hide (flatten_take_le xss)
  obtain ⟨i0, hi0, hz0, hz1, hz2⟩ := info_parts int_info
  have HI0 := hide hi0
  have HZ0 := hide hz0
  have HZ1 := hide hz1
  have HZ2 := hide hz2
  clear ha hl hi0 hz0 hz1 hz2
  go_enter Try.func20, Try.ntmps20
  go_wp2_with fail
  go_loop [3, 11] (fun sv iv => ∃ k s : Nat, k ≤ l ∧ iv = .int .i64 k ∧ sv = .int .i64 s ∧ s ≤ 1000000 ∧ Hid (s = (xss.take k).flatten.length)) (fun _ iv => l - (intOf iv).toNat)
  case atStart => exact ⟨0, 0, Nat.zero_le _, rfl, rfl, by omega, by rw [List.take_zero]; exact rfl⟩
  case round =>
    obtain ⟨k, s, hk, rfl, rfl, hs1, HS⟩ := hrel
    by_cases hlt : k < l
    · obtain ⟨ad, B, m, d, rfl, hcl, hil⟩ := HA.out.at_ hlt
      have hkx : k < xss.length := by rw [HL.out]; exact hlt
      have hm := hil.len
      have h2 := HFL.out (k + 1)
      have h3 := congrArg List.length (sum_take hkx)
      rw [List.length_append, hm, ← HS.out] at h3
      rw [h3] at h2
      have hsm : s + m ≤ 1000000 := by omega
      have HN : Hid (s + m = (xss.take (k + 1)).flatten.length) := hide h3.symm
      clear hil hm h2 h3
      go_wp2
      go_round
      case rel => exact ⟨k + 1, s + m, by omega, by go_num, by go_num, hsm, HN.out⟩
      case measure => simp [intOf]; omega
    · have HE : Hid (s = xss.flatten.length) := hide (by rw [HS.out, List.take_of_length_le (by rw [HL.out]; omega)])
      clear HS
      go_wp2_with fail
      refine (grow_any s w hs1).mono ?_
      rintro e w1 ⟨A1, n1, c1, rfl, ho1, hb1⟩
      have hn1 : n1 = 0 := by have := ho1.len; simpa using this.symm
      subst hn1
      go_wp2_with fail
      go_loopw [6, 27] (fun ov iv wr => ∃ (k m c2 : Nat) (A2 : Option Addr), k ≤ l ∧ iv = .int .i64 k ∧ ov = .slice A2 m c2 ∧ OwnI wr w.heap.size A2 m c2 (xss.take k).flatten ∧ Below w.heap.size w wr) (fun _ iv _ => l - (intOf iv).toNat)
      case atStart => exact ⟨0, 0, c1, A1, Nat.zero_le _, rfl, rfl, by rw [List.take_zero]; exact ho1, hb1⟩
      case round =>
        clear ho1 hb1
        obtain ⟨k, m, c2, A2, hk, rfl, rfl, ho, hb⟩ := hrel
        by_cases hlt : k < l
        · obtain ⟨ad, B, m2, d, rfl, hcl, hil⟩ := (HA.out.below hb).at_ hlt
          have hkx : k < xss.length := by rw [HL.out]; exact hlt
          have hm := hil.len
          have hml := ho.len
          have h2 := HFL.out (k + 1)
          have h3 := congrArg List.length (sum_take hkx)
          rw [List.length_append, hm, hml] at h3
          rw [h3] at h2
          have hsm : m + m2 ≤ 1000000 := by omega
          have HT := hide (sum_take hkx)
          have HIL := hide hil
          have HO := hide ho
          have HB := hide hb
          clear hil hm hml h2 h3 ho hb
          go_wp2_with (at_builtin; refine wpList_append_int _ rfl (.tmp 31) (.tmp 32) 22 rfl w.heap.size i0 Try.underlying22 HI0.out HZ0.out HZ1.out HZ2.out A2 m c2 _ rfl HO.out B m2 d _ rfl HIL.out (by omega) HB.out.size ?_; intro A8 c8 w8 hap)
          have hN := hap.own
          rw [← HT.out] at hN
          have hb8 := HB.out.grown hap.grown HB.out.size (fun j hj => (HO.out.lt j (by rw [ownBlock_len A2 m (m + m2) c2 c2]; exact hj)).1)
          clear hap
          go_roundw
          case rel => exact ⟨k + 1, m + m2, c8, A8, by omega, by go_num, rfl, hN, hb8⟩
          case measure => simp [intOf]; omega
        · have HO : Hid (OwnI wr w.heap.size A2 m c2 xss.flatten) := by
            rw [List.take_of_length_le (by rw [HL.out]; omega)] at ho
            exact ho
          go_wp2
          go_ret
          exact ⟨A2, m, c2, rfl, HO.out, hb⟩
end Go.Proofs.Ytllalncbajpodaa
/- timbref1.Rooted: the root of a word. -/
namespace Go.Proofs.Ytllalncbajpodaa
set_option linter.unusedVariables false
set_option linter.unusedSimpArgs false
open Go.RowKit

theorem core_ne {w : List Int} (hr : Red w) (hne : w ≠ []) : (core w).1 ≠ [] := by
  intro h
  have h1 := (core_spec w).1
  rw [h, List.append_nil] at h1
  have h2 := nf_of_red hr
  rw [h1, nf_mul_inv] at h2
  exact hne (by rw [h1]; exact h2.symm)
theorem core_len (w : List Int) : (core w).1.length + 2 * (core w).2.length = w.length := by
  have h := congrArg List.length (core_spec w).1
  rw [List.length_append, List.length_append, invw_length] at h
  omega
theorem core_mem2 {w : List Int} {x : Int} (h : x ∈ (core w).2) : x ∈ w := by
  rw [(core_spec w).1]
  exact List.mem_append_left _ (List.mem_append_left _ h)
theorem core_mem1 {w : List Int} {x : Int} (h : x ∈ (core w).1) : x ∈ w := by
  rw [(core_spec w).1]
  exact List.mem_append_left _ (List.mem_append_right _ h)

end Go.Proofs.Ytllalncbajpodaa
/- timbref1.Conjugates. -/
namespace Go.Proofs.Ytllalncbajpodaa
set_option linter.unusedVariables false
set_option linter.unusedSimpArgs false
open Go.RowKit

theorem IL.tailA {w : World} {ad : Addr} {n d : Nat} {xs : List Int} (h : IL w (some ad) n xs) (h1 : 1 ≤ n) (hd : n ≤ d) : IL w (if d = 1 then some ad else some (ad.add 1)) (n - 1) (xs.drop 1) := by
  have hl := h.len
  have hm := h.mid (k := 1) (m := n - 1) (by omega)
  rw [List.take_of_length_le (by simp; omega)] at hm
  by_cases hd1 : d = 1
  · rw [if_pos hd1]
    exact ⟨hm.len, hm.small, fun h0 => absurd h0 (by omega)⟩
  · rw [if_neg hd1]
    exact hm
theorem eClone : ∀ args w, (callFunc 45 args).run Try.prog w = .ok (.enter 45 args) w := enters (fn := Try.f45) (by kernel_rfl) (by kernel_rfl) (by kernel_rfl)
theorem sizeInt (w : World) : (sizeOf 3).run Try.prog w = .ok 1 w := by kernel_rfl

end Go.Proofs.Ytllalncbajpodaa
/- timbmake.Perm. -/
namespace Go.Proofs.Ytllalncbajpodaa
set_option linter.unusedVariables false
set_option linter.unusedSimpArgs false
open Go.RowKit

/-- The state of the loop: what is out, what is left. -/
def MpState (n : Nat) (raws : List Int) (os rs : List Nat) : Prop := (os ++ rs).Perm (List.range n) ∧ (raws = [] → os ++ rs = List.range n)

theorem rest_tail {w8 w9 : World} {B5 g5 m c5 i c9 : Nat} {A9 B10 : Option Addr} {xs ys : List Int} (hr : OwnI w8 B5 (some ⟨g5, 0, none⟩) m c5 xs) (hg : g5 < w8.heap.size)
    (h9 : Appended (w8.alloc (.cells #[] 3)).drew w8.heap.size (some ⟨w8.heap.size, 0, none⟩) (0 + i) 0 ys A9 c9 w9) (hi : i + 1 ≤ m)
    (hB : (if c5 = i + 1 then some (⟨g5, 0, none⟩ : Addr) else some ⟨g5, i + 1, none⟩) = B10) : IL w9 B10 (m - (i + 1)) (xs.drop (i + 1)) := by
  have h1 : OwnI w9 B5 (some ⟨g5, 0, none⟩) m c5 xs := (hr.alloc _).drew.kept h9.grown (.inr (by simp [Value.ownBlock]; omega))
  have h2 := h1.il.tail (k := i + 1) (d := c5) hi h1.cap
  rw [Nat.zero_add, hB] at h2
  exact h2

theorem mp_keep {w w8 w9 w10 : World} {k c8 i j c9 c10 : Nat} {A8 A9 A10 : Option Addr} {xs ys ys' : List Int} (hB8 : Below w.heap.size w w8) (ho : OwnI w8 w.heap.size A8 k c8 xs)
    (h9 : Appended (w8.alloc (.cells #[] 3)).drew w8.heap.size (some ⟨w8.heap.size, 0, none⟩) (0 + i) 0 ys A9 c9 w9) (h10 : Appended w9 w8.heap.size A9 j c9 ys' A10 c10 w10) :
    OwnI w10 w.heap.size A8 k c8 xs ∧ Below w.heap.size w w10 ∧ w.heap.size ≤ w8.heap.size ∧ (∀ g, (Value.slice A8 k c8).ownBlock = some g → g < w8.heap.size) := by
  have hs := hB8.size
  have hlt : ∀ g, (Value.slice A8 k c8).ownBlock = some g → g < w8.heap.size := fun g hg => (ho.lt g hg).2
  have hA9 : ∀ g, (Value.slice A9 j c9).ownBlock = some g → w8.heap.size ≤ g := by
    intro g hg
    rcases h9.lies with e | e
    · rw [ownBlock_len A9 j (0 + i) c9 c9, e] at hg
      simp [Value.ownBlock] at hg
      omega
    · rw [ownBlock_len A9 j (0 + i) c9 c9, e] at hg
      simp at hg
      omega
  have o9 : OwnI w9 w.heap.size A8 k c8 xs := (ho.alloc _).drew.kept h9.grown (by
    rcases hb : (Value.slice A8 k c8).ownBlock with _ | g
    · exact .inl rfl
    · refine .inr ?_
      have := hlt g hb
      simp [Value.ownBlock]; omega)
  have o10 : OwnI w10 w.heap.size A8 k c8 xs := o9.kept h10.grown (by
    rcases hb : (Value.slice A8 k c8).ownBlock with _ | g
    · exact .inl rfl
    · refine .inr fun e => ?_
      have := hlt g hb
      have := hA9 g e.symm
      omega)
  have b9 : Below w.heap.size w w9 := ((hB8.alloc hs _).drew).grown h9.grown (by simp; omega) (by intro g hg; simp [Value.ownBlock] at hg; omega)
  have b10 : Below w.heap.size w w10 := b9.grown h10.grown b9.size (fun g hg => by have := hA9 g hg; omega)
  exact ⟨o10, b10, hs, hlt⟩

theorem mp_state {n : Nat} {raws : List Int} {os rs : List Nat} {i q : Nat} (hi : i < rs.length) (hq : rs.getD i 0 = q) (hraw : raws = [] → i = 0) (h : MpState n raws os rs) :
    MpState n raws (os ++ [q]) (rs.take i ++ rs.drop (i + 1)) := by
  subst hq
  refine ⟨perm_take hi h.1, fun hr => ?_⟩
  obtain rfl := hraw hr
  exact range_take hi (h.2 hr)
theorem mp_rest {w : World} {base m i c m2 : Nat} {A : Option Addr} {rs : List Nat} (h : OwnI w base A (0 + i + (m - (i + 1))) c ([] ++ (zs rs).take i ++ (zs rs).drop (i + 1))) (hm2 : m2 = 0 + i + (m - (i + 1))) :
    OwnI w base A m2 c (zs (rs.take i ++ rs.drop (i + 1))) := by
  rw [List.nil_append, zs_take, zs_drop, zs_append] at h
  rw [hm2]
  exact h
theorem mp_out {w : World} {base k c : Nat} {A : Option Addr} {os : List Nat} {q : Nat} (h : OwnI w base A k c (zs os ++ [(q : Int)])) : OwnI w base A k c (zs (os ++ [q])) := by
  have e : zs os ++ [(q : Int)] = zs (os ++ [q]) := by simp [zs]
  rw [← e]
  exact h
/-- What timbmake.Perm gives. -/
def GivesPerm (n : Nat) (raws : List Int) (w : World) (e : Ending) (w' : World) : Prop := ∃ a : List Nat, isP a ∧ a.length = n ∧ (raws = [] → a = List.range n) ∧ GivesOwn w (zs a) e w'

end Go.Proofs.Ytllalncbajpodaa
