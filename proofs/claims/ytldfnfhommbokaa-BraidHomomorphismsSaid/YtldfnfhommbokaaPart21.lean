/- Several texts of the walk in one. -/
import Derived.Test.YtldfnfhommbokaaPart20
import Derived.Test.YtldfnfhommbokaaPart5
/- timbkeep1.around; timbkeep1.matrices. (Written by tools/gen_around.py.) -/
namespace Go.Proofs.Ytldfnfhommbokaa
set_option linter.unusedVariables false
set_option linter.unusedSimpArgs false
open Go.RowKit

theorem okB_word {T : Nat} {us : List Int} (h : ∀ x ∈ us, x ≠ 0 ∧ x ≤ (T : Int) ∧ -(T : Int) ≤ x) : okB (T + 1) us := fun x hx => by have := h x hx; omega
/-- Two words that are equal by a relation, in the middle of others. -/
def GivesAround (N K : Nat) (w : World) (e : Ending) (w' : World) : Prop :=
  ∃ A n c B m d us vs xs ys, e = .returned (.tuple #[.slice A n c, .slice B m d]) ∧ SL w' A n c (us ++ xs ++ vs) ∧ SL w' B m d (us ++ ys ++ vs) ∧ Side N xs ys ∧ okB N us ∧ okB N vs ∧ us.length ≤ K ∧ vs.length ≤ K ∧ Below w.heap.size w w'

set_option maxRecDepth 100000 in
set_option maxHeartbeats 4000000 in
theorem around_any (T K : Nat) (kz : Int) (hkz : kz = (K : Int)) (hT : 1 ≤ T ∧ T ≤ 5) (hK : K ≤ 10) (A : Option Addr) (n c : Nat) (us : List Int) (B : Option Addr) (m d : Nat) (vs : List Int) (i k : Int) (w : World) (ha : SL w A n c us) (hb : SL w B m d vs) :
    Calls Try.prog 27 #[.int .i64 ((T : Int) + 1), .slice A n c, .slice B m d, .int .i64 i, .int .i64 k, .int .i64 kz] w (GivesAround (T + 1) K w) := by
  subst hkz
  have HA := hide ha
  have HB := hide hb
  have HW := hide (Below.refl w.heap.size w)
  clear ha hb
  go_enter Try.func27, Try.ntmps27
  go_wp2_with fail
  refine (sides_any T hT i k _).mono ?_
  rintro e w1 ⟨P, pn, pc, Q, qn, qc, xs, ys, rfl, hs1, hs2, hsd, hb⟩
  replace HA := hide (HA.out.below hb)
  replace HB := hide (HB.out.below hb)
  replace HW := hide (HW.out.trans (hb.mono HW.out.size))
  have SP := hide hs1
  have SQ := hide hs2
  have SD := hide hsd
  clear hb hs1 hs2 hsd
  go_wp2_with fail
  refine (word_any A T n c K us _ HA.out.il HA.out.cap (by omega) (by omega) (by omega)).mono ?_
  rintro e w2 ⟨us2, U, un, uc, rfl, ho, hok, hl, hb⟩
  replace HA := hide (HA.out.below hb)
  replace HB := hide (HB.out.below hb)
  replace HW := hide (HW.out.trans (hb.mono HW.out.size))
  replace SP := hide (SP.out.below hb)
  replace SQ := hide (SQ.out.below hb)
  have SU := hide ho.sl
  have OU := hide (okB_word hok)
  have LU := hide hl
  have NU := hide ho.sl.il.len
  clear hb ho hok hl
  go_wp2_with fail
  refine (word_any B T m d K vs _ HB.out.il HB.out.cap (by omega) (by omega) (by omega)).mono ?_
  rintro e w3 ⟨vs2, V, vn, vc, rfl, ho, hok, hl, hb⟩
  replace HA := hide (HA.out.below hb)
  replace HB := hide (HB.out.below hb)
  replace HW := hide (HW.out.trans (hb.mono HW.out.size))
  replace SP := hide (SP.out.below hb)
  replace SQ := hide (SQ.out.below hb)
  replace SU := hide (SU.out.below hb)
  have SV := hide ho.sl
  have OV := hide (okB_word hok)
  have LV := hide hl
  have NV := hide ho.sl.il.len
  clear hb ho hok hl
  go_wp2_with fail
  have HLIT := hide (show ILL (w3.alloc (.cells #[.slice U un uc, .slice P pn pc, .slice V vn vc] 22)) (some ⟨w3.heap.size, 0, none⟩) 3 [us2, xs, vs2] from
    ILL.lit (vs := [.slice U un uc, .slice P pn pc, .slice V vn vc]) rfl (by simp) (fun j hj => by
      match j, hj with
      | 0, _ => exact ⟨_, _, _, rfl, SU.out.il⟩
      | 1, _ => exact ⟨_, _, _, rfl, SP.out.il⟩
      | 2, _ => exact ⟨_, _, _, rfl, SV.out.il⟩
      | j + 3, h => exact absurd h (by simp)) rfl rfl)
  have hal : Below w3.heap.size w3 (w3.alloc (.cells #[.slice U un uc, .slice P pn pc, .slice V vn vc] 22)) := (Below.refl _ _).alloc (Nat.le_refl _) _
  have hfl : [us2, xs, vs2].flatten = us2 ++ xs ++ vs2 := by simp
  refine (concat_any (some ⟨w3.heap.size, 0, none⟩) 3 3 _ _ HLIT.out (by rw [hfl]; simp only [List.length_append]; have := SD.out.l1; have := SD.out.l2; have := LU.out; have := LV.out; have := NU.out; have := NV.out; omega)).mono ?_
  rintro e w4 ⟨D, dn, dc, rfl, ho, hb0⟩
  have hb := hal.trans (hb0.mono hal.size)
  rw [hfl] at ho
  replace HA := hide (HA.out.below hb)
  replace HB := hide (HB.out.below hb)
  replace HW := hide (HW.out.trans (hb.mono HW.out.size))
  replace SP := hide (SP.out.below hb)
  replace SQ := hide (SQ.out.below hb)
  replace SU := hide (SU.out.below hb)
  replace SV := hide (SV.out.below hb)
  have S1 := hide ho.sl
  clear ho hb0 hal hfl HLIT hb
  go_wp2_with fail
  have HLIT := hide (show ILL (w4.alloc (.cells #[.slice U un uc, .slice Q qn qc, .slice V vn vc] 22)) (some ⟨w4.heap.size, 0, none⟩) 3 [us2, ys, vs2] from
    ILL.lit (vs := [.slice U un uc, .slice Q qn qc, .slice V vn vc]) rfl (by simp) (fun j hj => by
      match j, hj with
      | 0, _ => exact ⟨_, _, _, rfl, SU.out.il⟩
      | 1, _ => exact ⟨_, _, _, rfl, SQ.out.il⟩
      | 2, _ => exact ⟨_, _, _, rfl, SV.out.il⟩
      | j + 3, h => exact absurd h (by simp)) rfl rfl)
  have hal : Below w4.heap.size w4 (w4.alloc (.cells #[.slice U un uc, .slice Q qn qc, .slice V vn vc] 22)) := (Below.refl _ _).alloc (Nat.le_refl _) _
  have hfl : [us2, ys, vs2].flatten = us2 ++ ys ++ vs2 := by simp
  refine (concat_any (some ⟨w4.heap.size, 0, none⟩) 3 3 _ _ HLIT.out (by rw [hfl]; simp only [List.length_append]; have := SD.out.l1; have := SD.out.l2; have := LU.out; have := LV.out; have := NU.out; have := NV.out; omega)).mono ?_
  rintro e w5 ⟨G, gn, gc, rfl, ho, hb0⟩
  have hb := hal.trans (hb0.mono hal.size)
  rw [hfl] at ho
  replace HA := hide (HA.out.below hb)
  replace HB := hide (HB.out.below hb)
  replace HW := hide (HW.out.trans (hb.mono HW.out.size))
  replace SP := hide (SP.out.below hb)
  replace SQ := hide (SQ.out.below hb)
  replace SU := hide (SU.out.below hb)
  replace SV := hide (SV.out.below hb)
  replace S1 := hide (S1.out.below hb)
  have S2 := hide ho.sl
  clear ho hb0 hal hfl HLIT hb
  go_wp2_with fail
  go_ret2
  exact ⟨D, dn, dc, G, gn, gc, us2, vs2, xs, ys, rfl, S1.out, S2.out, SD.out, OU.out, OV.out, by have := LU.out; have := NU.out; omega, by have := LV.out; have := NV.out; omega, HW.out⟩

set_option maxRecDepth 100000 in
set_option maxHeartbeats 4000000 in
theorem mxRow_any (A B : Option Addr) (n c d : Nat) (ps : List Po) (w : World) (ha : SPo w A n c ps) (hb : SPo w B n d ps) :
    Calls Try.prog 49 #[.slice A n c, .slice B n d, .func (.func 33) #[] #[]] w fun e w' => e = .returned (.bool true) ∧ Below w.heap.size w w' := by
  have HA := hide ha
  have HB := hide hb
  have HW := hide (Below.refl w.heap.size w)
  have hsm := ha.small
  clear ha hb
  go_enter Try.func49, Try.ntmps49
  go_wp2_with fail
  go_loopw [17] (fun i wr => ∃ k : Nat, k ≤ n ∧ i = .int .i64 k ∧ Hid (Below w.heap.size w wr)) (fun i _ => n - (intOf i).toNat)
  case atStart => exact ⟨0, Nat.zero_le _, rfl, HW⟩
  case round =>
    clear HW
    obtain ⟨k, hk, rfl, HW⟩ := hrel
    by_cases hlt : k < n
    · obtain ⟨ad, B2, m2, d2, rfl, hq0, hq1, hs, hwf⟩ := (HA.out.below HW.out).at_ hlt
      obtain ⟨lo, xs, hp⟩ : ∃ lo xs, ps.getD k (0, []) = (lo, xs) := ⟨_, _, rfl⟩
      rw [hp] at hq0 hs hwf
      dsimp only at hq0 hs hwf
      have HP := hide hp
      have HSX := hide hs
      have HLT := hide hlt
      have HK := hide hk
      clear hs hwf hp
      go_upto_region 6 with fail
      have hb : Below wr.heap.size wr (wr.alloc (.cells #[.int .i64 lo, .slice B2 m2 d2] 45)) := (Below.refl _ _).alloc (Nat.le_refl _) _
      have BP := hide (Blk.new wr 45 #[.int .i64 lo, .slice B2 m2 d2])
      replace HSX := hide (HSX.out.below hb)
      replace HW := hide (HW.out.trans (hb.mono HW.out.size))
      obtain ⟨b6, hq⟩ : ∃ q, wr.heap.size = q := ⟨_, rfl⟩
      obtain ⟨w1, hw⟩ : ∃ q, wr.alloc (.cells #[.int .i64 lo, .slice B2 m2 d2] 45) = q := ⟨_, rfl⟩
      rw [hw] at BP HSX HW ⊢
      rw [hq] at BP ⊢
      clear hb hq hw hq0 hq1
      obtain ⟨bd, B3, m3, d3, rfl, hq0, hq1, hs, hwf⟩ := (HB.out.below HW.out).at_ HLT.out
      rw [HP.out] at hq0 hs hwf
      dsimp only at hq0 hs hwf
      have HSY := hide hs
      clear hs hwf hk
      have hlt := HLT.out
      go_upto_region 7 with fail
      have hb : Below w1.heap.size w1 (w1.alloc (.cells #[.int .i64 lo, .slice B3 m3 d3] 45)) := (Below.refl _ _).alloc (Nat.le_refl _) _
      have BQ := hide (Blk.new w1 45 #[.int .i64 lo, .slice B3 m3 d3])
      have hbl := BP.out.lt
      replace BP := hide (BP.out.below hb hbl)
      replace HSX := hide (HSX.out.below hb)
      replace HSY := hide (HSY.out.below hb)
      replace HW := hide (HW.out.trans (hb.mono HW.out.size))
      obtain ⟨b7, hq⟩ : ∃ q, w1.heap.size = q := ⟨_, rfl⟩
      obtain ⟨w2, hw⟩ : ∃ q, w1.alloc (.cells #[.int .i64 lo, .slice B3 m3 d3] 45) = q := ⟨_, rfl⟩
      rw [hw] at BP BQ HSX HSY HW ⊢
      rw [hq] at BQ ⊢
      clear hb hq hw hq0 hq1 hbl
      have hz0 := BP.out.cell 0
      have hz1 := BP.out.cell 1
      simp at hz0 hz1
      have hy0 := BQ.out.cell 0
      have hy1 := BQ.out.cell 1
      simp at hy0 hy1
      have hC := same_k lo B2 m2 d2 xs lo B3 m3 d3 xs _ HSX.out HSY.out
      rw [show (decide (lo = lo) && eqB xs xs) = true by rw [eqB_true rfl]; simp] at hC
      have HC := hide hC
      clear hC
      go_wp2_with fail
      refine HC.out.mono ?_
      rintro e w3 ⟨rfl, hb2⟩
      replace HW := hide (HW.out.trans (hb2.mono HW.out.size))
      clear hb2 hz0 hz1 hy0 hy1 BP BQ HC HSX HSY
      have hk := HK.out
      go_wp2_with fail
      go_roundw
      case rel => exact ⟨k + 1, by omega, by go_num, HW⟩
      case measure => simp [intOf]; omega
    · go_wp2_with fail
      go_ret
      exact ⟨rfl, HW.out⟩

set_option maxRecDepth 100000 in
set_option maxHeartbeats 2000000 in
theorem mx1_any (A B : Option Addr) (n c d : Nat) (ps : List Po) (w : World) (ha : SPo w A n c ps) (hb : SPo w B n d ps) :
    Calls Try.prog 48 #[.slice A n c, .slice B n d] w fun e w' => e = .returned (.bool true) ∧ Below w.heap.size w w' := by
  have HC := hide (mxRow_any A B n c d ps w ha hb)
  clear ha hb
  go_enter Try.func48, Try.ntmps48
  go_wp2_with fail
  refine HC.out.mono ?_
  rintro e w1 ⟨rfl, hb1⟩
  have HW := hide hb1
  clear hb1 HC
  go_wp2_with fail
  go_ret
  exact ⟨rfl, HW.out⟩

set_option maxRecDepth 100000 in
set_option maxHeartbeats 4000000 in
theorem mxRows_any (A B : Option Addr) (n c d : Nat) (pss : List (List Po)) (w : World) (ha : SPP w A n c pss) (hb : SPP w B n d pss) :
    Calls Try.prog 47 #[.slice A n c, .slice B n d, .func (.func 48) #[] #[]] w fun e w' => e = .returned (.bool true) ∧ Below w.heap.size w w' := by
  have HA := hide ha
  have HB := hide hb
  have HW := hide (Below.refl w.heap.size w)
  have hsm := ha.small
  clear ha hb
  go_enter Try.func47, Try.ntmps47
  go_wp2_with fail
  go_loopw [17] (fun i wr => ∃ k : Nat, k ≤ n ∧ i = .int .i64 k ∧ Hid (Below w.heap.size w wr)) (fun i _ => n - (intOf i).toNat)
  case atStart => exact ⟨0, Nat.zero_le _, rfl, HW⟩
  case round =>
    clear HW
    obtain ⟨k, hk, rfl, HW⟩ := hrel
    by_cases hlt : k < n
    · obtain ⟨ad, B2, m2, d2, rfl, hq0, hs⟩ := (HA.out.below HW.out).at_ hlt
      obtain ⟨bd, B3, m3, d3, rfl, hq2, ht⟩ := (HB.out.below HW.out).at_ hlt
      have hm : m2 = m3 := by rw [← hs.len, ← ht.len]
      subst hm
      have HC := hide (mx1_any B2 B3 m2 d2 d3 _ _ hs ht)
      have HK := hide hk
      clear hs ht hk
      go_wp2_with fail
      refine HC.out.mono ?_
      rintro e w2 ⟨rfl, hb2⟩
      replace HW := hide (HW.out.trans (hb2.mono HW.out.size))
      clear hb2 hq0 hq2 HC
      have hk := HK.out
      go_wp2_with fail
      go_roundw
      case rel => exact ⟨k + 1, by omega, by go_num, HW⟩
      case measure => simp [intOf]; omega
    · go_wp2_with fail
      go_ret
      exact ⟨rfl, HW.out⟩
set_option maxRecDepth 100000 in
set_option maxHeartbeats 2000000 in
theorem matrices_any (A B : Option Addr) (n c d : Nat) (pss : List (List Po)) (w : World) (ha : SPP w A n c pss) (hb : SPP w B n d pss) :
    Calls Try.prog 29 #[.slice A n c, .slice B n d] w fun e w' => e = .returned (.bool true) ∧ Below w.heap.size w w' := by
  have HC := hide (mxRows_any A B n c d pss w ha hb)
  clear ha hb
  go_enter Try.func29, Try.ntmps29
  go_wp2_with fail
  refine HC.out.mono ?_
  rintro e w1 ⟨rfl, hb1⟩
  have HW := hide hb1
  clear hb1 HC
  go_wp2_with fail
  go_ret
  exact ⟨rfl, HW.out⟩
end Go.Proofs.Ytldfnfhommbokaa
/- timbkeep1.BraidRelations, for a package braid that answers as it should. (Written by tools/gen_brrel.py.) -/
namespace Go.Proofs.Ytldfnfhommbokaa
set_option linter.unusedVariables false
set_option linter.unusedSimpArgs false
open Go.RowKit

theorem buL_congr {n : Nat} {a b : List Int} (h : EqM n (bu n a) (bu n b)) : buL n a = buL n b := by
  unfold buL
  exact List.map_congr_left fun i hi => List.map_congr_left fun j hj => by rw [h i (List.mem_range.1 hi) j (List.mem_range.1 hj)]
theorem okB_append {n : Nat} {a b : List Int} (ha : okB n a) (hb : okB n b) : okB n (a ++ b) := fun x hx => (List.mem_append.1 hx).elim (ha x) (hb x)
theorem bfault_T {T : Nat} (h5 : T ≤ 5) {a : List Int} (ha : okB (T + 1) a) (hl : a.length ≤ 30) : bfault ((T : Int) + 1) a = 0 :=
  bfault_ok (by omega) (by omega) hl fun x hx => by have := ha x hx; omega
theorem burE_T {T : Nat} (h5 : T ≤ 5) {a : List Int} (ha : okB (T + 1) a) (hl : a.length ≤ 16) : burE ((T : Int) + 1) a = 0 := by
  unfold burE
  rw [bfault_T h5 ha (by omega), if_pos rfl, if_neg (by omega)]
theorem burL_T {T : Nat} (h5 : T ≤ 5) {a : List Int} (ha : okB (T + 1) a) (hl : a.length ≤ 16) : burL ((T : Int) + 1) a = buL (T + 1) a := by
  unfold burL
  rw [burE_T h5 ha hl, if_pos rfl]
  rfl
theorem permE_T {T : Nat} (h5 : T ≤ 5) {a : List Int} (ha : okB (T + 1) a) (hl : a.length ≤ 30) : permE ((T : Int) + 1) a = zs (endsL (T + 1) a) := by
  unfold permE
  rw [bfault_T h5 ha hl, if_pos rfl]
  rfl
theorem expoB_T {T : Nat} (h5 : T ≤ 5) {a : List Int} (ha : okB (T + 1) a) (hl : a.length ≤ 30) : expoB ((T : Int) + 1) a = LP.expo a := by
  unfold expoB
  rw [bfault_T h5 ha hl, if_pos rfl]
theorem expo_app (a b : List Int) : LP.expo (a ++ b) = LP.expo a + LP.expo b := wsum_append _ _ _
/-- What is alike in two words that are equal by a relation. -/
structure Alike (T : Nat) (a b : List Int) : Prop where
  fa : bfault ((T : Int) + 1) a = 0
  fb : bfault ((T : Int) + 1) b = 0
  ba : burE ((T : Int) + 1) a = 0
  bb : burE ((T : Int) + 1) b = 0
  perm : permE ((T : Int) + 1) a = permE ((T : Int) + 1) b
  expo : expoB ((T : Int) + 1) a = expoB ((T : Int) + 1) b
  bur : burL ((T : Int) + 1) a = burL ((T : Int) + 1) b
  len : (burL ((T : Int) + 1) a).length = T + 1
theorem alike {T : Nat} (h5 : T ≤ 5) {us vs xs ys : List Int} (h : Side (T + 1) xs ys) (hu : okB (T + 1) us) (hv : okB (T + 1) vs) (lu : us.length ≤ 6) (lv : vs.length ≤ 6) : Alike T (us ++ xs ++ vs) (us ++ ys ++ vs) := by
  have oa := okB_append (okB_append hu h.ok1) hv
  have ob := okB_append (okB_append hu h.ok2) hv
  have la : (us ++ xs ++ vs).length ≤ 16 := by simp only [List.length_append]; have := h.l1; omega
  have lb : (us ++ ys ++ vs).length ≤ 16 := by simp only [List.length_append]; have := h.l2; omega
  refine ⟨bfault_T h5 oa (by omega), bfault_T h5 ob (by omega), burE_T h5 oa la, burE_T h5 ob lb, ?_, ?_, ?_, ?_⟩
  · rw [permE_T h5 oa (by omega), permE_T h5 ob (by omega), h.e.ends]
  · rw [expoB_T h5 oa (by omega), expoB_T h5 ob (by omega), expo_app, expo_app, expo_app, expo_app, h.x]
  · rw [burL_T h5 oa la, burL_T h5 ob lb]
    exact buL_congr (h.b.bu h.ok1 h.ok2 us vs)
  · rw [burL_T h5 oa la]
    simp [buL]

set_option maxRecDepth 100000 in
set_option maxHeartbeats 8000000 in
theorem braidRelations_any (F : BraidC) (nn : Int) (A : Option Addr) (n c : Nat) (us : List Int) (B : Option Addr) (m d : Nat) (vs : List Int) (i k : Int) (w : World) (ha : SL w A n c us) (hb : SL w B m d vs) :
    Calls Try.prog 5 #[.int .i64 nn, .slice A n c, .slice B m d, .int .i64 i, .int .i64 k] w fun e w' => e = .returned (.bool true) ∧ Below w.heap.size w w' := by
  have HF := hide F
  have HA := hide ha
  have HB := hide hb
  have HW := hide (Below.refl w.heap.size w)
  clear F ha hb
  go_enter Try.func5, Try.ntmps5
  go_wp2_with fail
  refine (strands_any nn _).mono ?_
  rintro e w1 ⟨T, hT1, hT5, rfl, hww⟩
  replace hww := hww.symm
  subst hww
  have HWM := hide (wfI (x := (T : Int) + 1) (by omega))
  go_wp2_with fail
  refine (around_any T 6 6 rfl ⟨hT1, hT5⟩ (by omega) A n c us B m d vs i k _ HA.out HB.out).mono ?_
  rintro e w2 ⟨P, pn, pc, Q, qn, qc, us2, vs2, xs, ys, rfl, hs1, hs2, hsd, hou, hov, hlu, hlv, hb⟩
  replace HA := hide (HA.out.below hb)
  replace HB := hide (HB.out.below hb)
  replace HW := hide (HW.out.trans (hb.mono HW.out.size))
  have SP := hide hs1
  have SQ := hide hs2
  have HL := hide (alike hT5 hsd hou hov hlu hlv)
  clear hb hs1 hs2 hsd hou hov hlu hlv
  generalize us2 ++ xs ++ vs2 = a at *
  generalize us2 ++ ys ++ vs2 = b at *
  obtain ⟨pl, hpl⟩ : ∃ q, permE ((T : Int) + 1) b = q := ⟨_, rfl⟩
  have HPA : Hid (permE ((T : Int) + 1) a = pl) := hide (HL.out.perm.trans hpl)
  have HPB := hide hpl
  obtain ⟨ev, hev⟩ : ∃ q, expoB ((T : Int) + 1) b = q := ⟨_, rfl⟩
  have HEA : Hid (expoB ((T : Int) + 1) a = ev) := hide (HL.out.expo.trans hev)
  have HEB := hide hev
  obtain ⟨bl, hbl⟩ : ∃ q, burL ((T : Int) + 1) b = q := ⟨_, rfl⟩
  have HBA : Hid (burL ((T : Int) + 1) a = bl) := hide (HL.out.bur.trans hbl)
  have HBB := hide hbl
  have HLN : Hid (bl.length = T + 1) := hide (by rw [← HBA.out]; exact HL.out.len)
  clear hpl hev hbl
  go_wp2_with fail
  refine (HF.out.perm ((T : Int) + 1) P pn pc a _ SP.out HWM.out).mono ?_
  rintro e w3 ⟨R, rn, rc, rfl, hs, hb⟩
  replace HA := hide (HA.out.below hb)
  replace HB := hide (HB.out.below hb)
  replace HW := hide (HW.out.trans (hb.mono HW.out.size))
  replace SP := hide (SP.out.below hb)
  replace SQ := hide (SQ.out.below hb)
  rw [HL.out.fa]
  rw [HPA.out] at hs
  have SR := hide hs
  clear hb hs
  go_wp2_with fail
  refine (HF.out.perm ((T : Int) + 1) Q qn qc b _ SQ.out HWM.out).mono ?_
  rintro e w4 ⟨V, vn, vc, rfl, hs, hb⟩
  replace HA := hide (HA.out.below hb)
  replace HB := hide (HB.out.below hb)
  replace HW := hide (HW.out.trans (hb.mono HW.out.size))
  replace SP := hide (SP.out.below hb)
  replace SQ := hide (SQ.out.below hb)
  replace SR := hide (SR.out.below hb)
  rw [HL.out.fb]
  rw [HPB.out] at hs
  have SV := hide hs
  clear hb hs
  go_wp2_with fail
  refine (HF.out.expo ((T : Int) + 1) P pn pc a _ SP.out HWM.out).mono ?_
  rintro e w5 ⟨rfl, hb⟩
  replace HA := hide (HA.out.below hb)
  replace HB := hide (HB.out.below hb)
  replace HW := hide (HW.out.trans (hb.mono HW.out.size))
  replace SP := hide (SP.out.below hb)
  replace SQ := hide (SQ.out.below hb)
  replace SR := hide (SR.out.below hb)
  replace SV := hide (SV.out.below hb)
  rw [HL.out.fa, HEA.out]
  clear hb
  go_wp2_with fail
  refine (HF.out.expo ((T : Int) + 1) Q qn qc b _ SQ.out HWM.out).mono ?_
  rintro e w6 ⟨rfl, hb⟩
  replace HA := hide (HA.out.below hb)
  replace HB := hide (HB.out.below hb)
  replace HW := hide (HW.out.trans (hb.mono HW.out.size))
  replace SP := hide (SP.out.below hb)
  replace SQ := hide (SQ.out.below hb)
  replace SR := hide (SR.out.below hb)
  replace SV := hide (SV.out.below hb)
  rw [HL.out.fb, HEB.out]
  clear hb
  go_wp2_with fail
  refine (HF.out.burau ((T : Int) + 1) P pn pc a _ SP.out HWM.out).mono ?_
  rintro e w7 ⟨X, xn, xc, rfl, hs, hb⟩
  replace HA := hide (HA.out.below hb)
  replace HB := hide (HB.out.below hb)
  replace HW := hide (HW.out.trans (hb.mono HW.out.size))
  replace SP := hide (SP.out.below hb)
  replace SQ := hide (SQ.out.below hb)
  replace SR := hide (SR.out.below hb)
  replace SV := hide (SV.out.below hb)
  rw [HL.out.ba]
  rw [HBA.out] at hs
  have SX := hide hs
  clear hb hs
  go_wp2_with fail
  refine (HF.out.burau ((T : Int) + 1) Q qn qc b _ SQ.out HWM.out).mono ?_
  rintro e w8 ⟨Y, yn, yc, rfl, hs, hb⟩
  replace HA := hide (HA.out.below hb)
  replace HB := hide (HB.out.below hb)
  replace HW := hide (HW.out.trans (hb.mono HW.out.size))
  replace SP := hide (SP.out.below hb)
  replace SQ := hide (SQ.out.below hb)
  replace SR := hide (SR.out.below hb)
  replace SV := hide (SV.out.below hb)
  replace SX := hide (SX.out.below hb)
  rw [HL.out.bb]
  rw [HBB.out] at hs
  have SY := hide hs
  clear hb hs
  have hxn : xn = T + 1 := by rw [← HLN.out]; exact SX.out.len.symm
  have hyn : yn = T + 1 := by rw [← HLN.out]; exact SY.out.len.symm
  subst hxn
  subst hyn
  have hev : (ev == ev) = true := by simp
  have hTT : (((T + 1 : Nat) : Int) == (T : Int) + 1) = true := by simp
  go_wp2_with fail
  refine (braided_k HF.out _).mono ?_
  rintro e w9 ⟨rfl, hb⟩
  replace HA := hide (HA.out.below hb)
  replace HB := hide (HB.out.below hb)
  replace HW := hide (HW.out.trans (hb.mono HW.out.size))
  replace SP := hide (SP.out.below hb)
  replace SQ := hide (SQ.out.below hb)
  replace SR := hide (SR.out.below hb)
  replace SV := hide (SV.out.below hb)
  replace SX := hide (SX.out.below hb)
  replace SY := hide (SY.out.below hb)
  clear hb
  go_wp2_with fail
  refine (equal_any R V rn vn rc vc _ _ _ SR.out.il SV.out.il).mono ?_
  rintro e w10 ⟨rfl, hb⟩
  replace HA := hide (HA.out.below hb)
  replace HB := hide (HB.out.below hb)
  replace HW := hide (HW.out.trans (hb.mono HW.out.size))
  replace SP := hide (SP.out.below hb)
  replace SQ := hide (SQ.out.below hb)
  replace SR := hide (SR.out.below hb)
  replace SV := hide (SV.out.below hb)
  replace SX := hide (SX.out.below hb)
  replace SY := hide (SY.out.below hb)
  rw [eqB_true rfl]
  clear hb
  go_wp2_with fail
  refine (matrices_any X Y (T + 1) xc yc _ _ SX.out SY.out).mono ?_
  rintro e w11 ⟨rfl, hb⟩
  replace HA := hide (HA.out.below hb)
  replace HB := hide (HB.out.below hb)
  replace HW := hide (HW.out.trans (hb.mono HW.out.size))
  replace SP := hide (SP.out.below hb)
  replace SQ := hide (SQ.out.below hb)
  replace SR := hide (SR.out.below hb)
  replace SV := hide (SV.out.below hb)
  replace SX := hide (SX.out.below hb)
  replace SY := hide (SY.out.below hb)
  clear hb
  go_wp2_with fail
  go_ret
  exact ⟨rfl, HW.out⟩
end Go.Proofs.Ytldfnfhommbokaa
