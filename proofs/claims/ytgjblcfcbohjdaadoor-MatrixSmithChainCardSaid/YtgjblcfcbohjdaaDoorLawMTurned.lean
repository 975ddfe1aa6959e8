/- timbkeep1.MatrixTurned, for a package intmatrix that answers as it should. -/
import Derived.Test.YtgjblcfcbohjdaaDoorLawMTimes
import Derived.Test.YtgjblcfcbohjdaaDoorCloneV
namespace Go.Proofs.YtgjblcfcbohjdaaDoor
set_option linter.unusedVariables false
set_option linter.unusedSimpArgs false
open Go.RowKit

theorem smithL_eq {xss yss : List (List Int)} {n m n' m' : Nat} (hx : mfault xss = 0) (hy : mfault yss = 0) (h1 : xss.length = n) (h2 : colsM xss = m) (h3 : yss.length = n') (h4 : colsM yss = m') (hmin : min n m = min n' m')
    (h : ∀ k g, k ≤ min n m → (DivAll n m k (matF xss) g ↔ DivAll n' m' k (matF yss) g)) : smithL xss = smithL yss := by
  unfold smithL
  rw [if_pos hx, if_pos hy, h1, h2, h3, h4, ← hmin]
  have c1 := smithS_chain n m (matF xss)
  have e1 := smithS_el n m (matF xss)
  have c2 := smithS_chain n' m' (matF yss)
  have e2 := smithS_el n' m' (matF yss)
  refine List.map_congr_left fun i hi => ?_
  have hi := List.mem_range.1 hi
  have hu := chain_unique c1 (by rw [hmin]; exact c2) (fun k hk => natAbs_of_dvd fun g => by rw [← smith_div c1 e1 hk g, ← smith_div c2 e2 (by omega) g]; exact h k g hk) i hi
  rw [hu]
theorem DivAll.congr {n m k : Nat} {A B : Mtx Int} {g : Int} (h : ∀ i, i < n → ∀ j, j < m → A i j = B i j) : DivAll n m k A g ↔ DivAll n m k B g := (El.ext h).div_iff
theorem DivAll.turn_iff {n m k : Nat} {M : Mtx Int} {g : Int} : DivAll n m k M g ↔ DivAll m n k (turnM M) g := ⟨DivAll.turn, fun h => DivAll.turn h⟩
/-- Rows x and y exchanged. -/
def swapL (xss : List (List Int)) (x y : Nat) : List (List Int) := (xss.set x (xss.getD y [])).set y (xss.getD x [])
theorem swapL_matF {xss : List (List Int)} {x y : Nat} (hx : x < xss.length) (hy : y < xss.length) (i : Nat) : matF (swapL xss x y) i = swapR (matF xss) x y i := by
  funext j
  unfold matF swapL swapR updR
  by_cases h1 : i = y
  · subst h1
    rw [if_pos rfl]
    have : ((xss.set x (xss.getD i [])).set i (xss.getD x [])).getD i [] = xss.getD x [] := by
      rw [List.getD_eq_getElem?_getD, List.getElem?_set_self (by simpa using hy)]; rfl
    rw [this]
  · rw [if_neg h1]
    have e : ((xss.set x (xss.getD y [])).set y (xss.getD x [])).getD i [] = (xss.set x (xss.getD y [])).getD i [] := by
      rw [List.getD_eq_getElem?_getD, List.getElem?_set_ne (fun h => h1 h.symm), ← List.getD_eq_getElem?_getD]
    rw [e]
    by_cases h2 : i = x
    · subst h2
      rw [if_pos rfl]
      have : (xss.set i (xss.getD y [])).getD i [] = xss.getD y [] := by
        rw [List.getD_eq_getElem?_getD, List.getElem?_set_self hx]; rfl
      rw [this]
    · rw [if_neg h2]
      have : (xss.set x (xss.getD y [])).getD i [] = xss.getD i [] := by
        rw [List.getD_eq_getElem?_getD, List.getElem?_set_ne (fun h => h2 h.symm), ← List.getD_eq_getElem?_getD]
      rw [this]
theorem Box.swap {n m B x y : Nat} {xss : List (List Int)} (h : Box n m B xss) (hx : x < n) (hy : y < n) : Box n m B (swapL xss x y) := by
  have hl := h.len
  refine ⟨by simp [swapL, hl], fun i hi => ?_, fun i j => ?_⟩
  · have : (swapL xss x y).getD i [] = xss.getD x [] ∨ (swapL xss x y).getD i [] = xss.getD y [] ∨ (swapL xss x y).getD i [] = xss.getD i [] := by
      unfold swapL
      by_cases h1 : y = i
      · subst h1; left; rw [List.getD_eq_getElem?_getD, List.getElem?_set_self (by simp; omega)]; rfl
      · rw [List.getD_eq_getElem?_getD, List.getElem?_set_ne h1]
        by_cases h2 : x = i
        · subst h2; right; left; rw [List.getElem?_set_self (by omega)]; rfl
        · right; right; rw [List.getElem?_set_ne h2, ← List.getD_eq_getElem?_getD]
    rcases this with e | e | e <;> rw [e]
    · exact h.row x hx
    · exact h.row y hy
    · exact h.row i hi
  · rw [swapL_matF (by omega) (by omega)]
    unfold swapR updR
    split
    · exact h.le _ _
    · split
      · exact h.le _ _
      · exact h.le _ _

set_option maxRecDepth 100000 in
set_option maxHeartbeats 8000000 in
theorem matrixTurned_any (F : MatC) (A : Option Addr) (n c : Nat) (n0 i0 k0 : Int) (xs : List Int) (w : World) (ha : SL w A n c xs) (hT : TabW w) :
    Calls Tryd.prog 7 #[.int .i64 n0, .slice A n c, .int .i64 i0, .int .i64 k0] w fun e w' => e = .returned (.bool true) ∧ Below w.heap.size w w' := by
  have HF := hide F
  have HTW := hide hT
  clear hT
  have HA := hide ha
  obtain ⟨j, hj, hj2⟩ : ∃ j : Nat, j < 4 ∧ n0 % ((4 : Nat) : Int) = (j : Int) := ⟨(n0 % 4).toNat, by omega, by omega⟩
  have HM : Hid (Calls Tryd.prog 21 #[.int .i64 n0, .int .i64 4] w fun e w' => e = .returned (.int .i64 j) ∧ w = w') := hide (by
    have h := mbelow_any n0 4 w (by omega) (by omega)
    rw [hj2] at h
    exact h)
  obtain ⟨k, hk⟩ : ∃ k, 2 + j = k := ⟨_, rfl⟩
  have hk1 : 2 ≤ k := by omega
  have hk4 : k ≤ 5 := by omega
  have hjk : (2 : Int) + (j : Int) = (k : Int) := by omega
  have HMX : Hid (∀ (w : World) (A : Option Addr) (n c : Nat), SL w A n c xs → Calls Tryd.prog 22 #[.int .i64 k, .int .i64 k, .slice A n c, .int .i64 20] w fun e w' => ∃ A m d, e = .returned (.slice A m d) ∧ SLL w' A m d (rawM k k xs 20) ∧ Below w.heap.size w w') := hide (fun w A n c h => mmatrix_any A n c xs k k 20 w h.il (by omega) (by omega) (by omega))
  have HBX := hide (rawM_box k k xs 20)
  obtain ⟨X, hX⟩ : ∃ X, rawM k k xs 20 = X := ⟨_, rfl⟩
  rw [hX] at HBX HMX
  clear hX
  -- the row numbers
  obtain ⟨x, hx, hx2⟩ : ∃ x : Nat, x < k ∧ i0 % ((k : Nat) : Int) = (x : Int) := ⟨(i0 % k).toNat, by
    have := Int.emod_nonneg i0 (show (k : Int) ≠ 0 by omega)
    have := Int.emod_lt_of_pos i0 (show (0 : Int) < (k : Int) by omega)
    omega, by
    have := Int.emod_nonneg i0 (show (k : Int) ≠ 0 by omega)
    omega⟩
  have HMI : Hid (∀ w, Calls Tryd.prog 21 #[.int .i64 i0, .int .i64 k] w fun e w' => e = .returned (.int .i64 x) ∧ w = w') := hide (fun w => by
    have h := mbelow_any i0 k w (by omega) (by omega)
    rw [hx2] at h
    exact h)
  obtain ⟨b, hb, hb2⟩ : ∃ b : Nat, b < k - 1 ∧ k0 % ((k - 1 : Nat) : Int) = (b : Int) := ⟨(k0 % ((k - 1 : Nat) : Int)).toNat, by
    have := Int.emod_nonneg k0 (show ((k - 1 : Nat) : Int) ≠ 0 by omega)
    have := Int.emod_lt_of_pos k0 (show (0 : Int) < ((k - 1 : Nat) : Int) by omega)
    omega, by
    have := Int.emod_nonneg k0 (show ((k - 1 : Nat) : Int) ≠ 0 by omega)
    omega⟩
  have HMK : Hid (∀ w, Calls Tryd.prog 21 #[.int .i64 k0, .int .i64 ((k : Int) - 1)] w fun e w' => e = .returned (.int .i64 b) ∧ w = w') := hide (fun w => by
    have h := mbelow_any k0 (k - 1) w (by omega) (by omega)
    rw [hb2, show ((k - 1 : Nat) : Int) = (k : Int) - 1 by omega] at h
    exact h)
  obtain ⟨y, hy⟩ : ∃ y, (x + 1 + b) % k = y := ⟨_, rfl⟩
  have hyk : y < k := by rw [← hy]; exact Nat.mod_lt _ (by omega)
  have hxy : x ≠ y := by
    rw [← hy]
    by_cases h : x + 1 + b < k
    · rw [Nat.mod_eq_of_lt h]; omega
    · rw [Nat.mod_eq_sub_mod (by omega), Nat.mod_eq_of_lt (by omega)]; omega
  have hyi : ((x : Int) + 1 + (b : Int)).tmod (k : Int) = (y : Int) := by
    rw [Int.tmod_eq_emod_of_nonneg (by omega), ← hy]
    push_cast
    rfl
  -- the mathematics
  have HBT : Hid (Box k k 20 (tabL k k (turnM (matF X)))) := hide (tabL_box fun i _ j _ => HBX.out.le j i)
  have HBS := hide (HBX.out.swap hx hyk)
  have HDX := hide (HBX.out.det (by omega) (by omega) (by omega))
  have HDT : Hid (detE (tabL k k (turnM (matF X))) = 0 ∧ detV (tabL k k (turnM (matF X))) = detR k (matF X)) := hide (by
    have h := HBT.out.det (by omega) (by omega) (by omega)
    refine ⟨h.1, h.2.trans ?_⟩
    rw [← detR_turn k (matF X)]
    exact detR_congr fun i hi j hj => tabL_matF k k _ hi hj)
  have HDS : Hid (detE (swapL X x y) = 0 ∧ detV (swapL X x y) = -detR k (matF X)) := hide (by
    have h := HBS.out.det (by omega) (by omega) (by omega)
    refine ⟨h.1, h.2.trans ?_⟩
    have hsw := (detR_alt (R := Int) k).swap (matF X) hx hyk hxy
    rw [← show detR k (matF (swapL X x y)) = detR k (swapR (matF X) x y) from detR_congr fun i hi j hj => by rw [swapL_matF (by rw [HBX.out.len]; exact hx) (by rw [HBX.out.len]; exact hyk)]] at hsw
    exact hsw)
  have HSM : Hid (smithL (tabL k k (turnM (matF X))) = smithL X) := hide (smithL_eq (HBT.out.fault (by omega) (by omega) (by omega)) (HBX.out.fault (by omega) (by omega) (by omega)) HBT.out.len (HBT.out.cols (by omega)) HBX.out.len (HBX.out.cols (by omega)) rfl fun q g hq => by
    rw [DivAll.turn_iff (M := matF X)]
    exact DivAll.congr fun i hi j hj => tabL_matF k k _ hi hj)
  have HFX := hide (HBX.out.fault (by omega) (by omega) (by omega))
  have HFT := hide (HBT.out.fault (by omega) (by omega) (by omega))
  have hdx := detR_bound (n := k) (B := 20) (by omega) (by omega) HBX.out.le
  have hXY := hide (And.intro hx (And.intro hyk hxy))
  clear F ha hj2 hj hk hx2 hb2 hy hxy
  go_enter Tryd.func7, Tryd.ntmps7
  go_wp2_with fail
  refine HM.out.mono ?_
  rintro e w' ⟨rfl, rfl⟩
  clear HM
  go_wp2_with fail
  refine (HMX.out _ _ _ _ HA.out).mono ?_
  rintro e w1 ⟨Xp, xn, xc, rfl, hs, hb⟩
  have HX := hide hs
  have HW := hide hb
  clear hs hb HMX HA
  have hxn : xn = k := by rw [← HX.out.len]; exact HBX.out.len
  subst hxn
  go_wp2_with fail
  refine (HF.out.det Xp _ xc X _ HX.out (HTW.out.below HW.out)).mono ?_
  rintro e w3 ⟨rfl, hb⟩
  rw [HDX.out.1, HDX.out.2]
  replace HX := hide (HX.out.below hb)
  replace HW := hide (HW.out.trans (hb.mono HW.out.size))
  clear hb
  go_wp2_with fail
  refine (mturn_any Xp _ xc _ X _ HX.out.ill (by omega) (by omega) (by omega) HBX.out.row).mono ?_
  rintro e w4 ⟨Tp, tn, tc, rfl, hs, hb⟩
  have HT := hide hs
  replace HX := hide (HX.out.below hb)
  replace HW := hide (HW.out.trans (hb.mono HW.out.size))
  clear hs hb
  go_wp2_with fail
  refine (HF.out.det Tp tn tc _ _ HT.out (HTW.out.below HW.out)).mono ?_
  rintro e w5 ⟨rfl, hb⟩
  rw [HDT.out.1, HDT.out.2]
  replace HX := hide (HX.out.below hb)
  replace HW := hide (HW.out.trans (hb.mono HW.out.size))
  clear hb HT
  go_wp2_with fail
  refine (HF.out.smith Xp _ xc X _ HX.out (HTW.out.below HW.out)).mono ?_
  rintro e w6 ⟨Pp, pn, pc, rfl, hs, hb⟩
  rw [HFX.out]
  have HP := hide hs
  replace HX := hide (HX.out.below hb)
  replace HW := hide (HW.out.trans (hb.mono HW.out.size))
  clear hs hb
  go_wp2_with fail
  refine (mturn_any Xp _ xc _ X _ HX.out.ill (by omega) (by omega) (by omega) HBX.out.row).mono ?_
  rintro e w7 ⟨Tp2, tn2, tc2, rfl, hs, hb⟩
  have HT := hide hs
  replace HX := hide (HX.out.below hb)
  replace HP := hide (HP.out.below hb)
  replace HW := hide (HW.out.trans (hb.mono HW.out.size))
  clear hs hb
  go_wp2_with fail
  refine (HF.out.smith Tp2 tn2 tc2 _ _ HT.out (HTW.out.below HW.out)).mono ?_
  rintro e w8 ⟨Qp, qn, qc, rfl, hs, hb⟩
  rw [HFT.out]
  rw [HSM.out] at hs
  have HQ := hide hs
  replace HX := hide (HX.out.below hb)
  replace HP := hide (HP.out.below hb)
  replace HW := hide (HW.out.trans (hb.mono HW.out.size))
  clear hs hb HT
  go_wp2_with fail
  refine (HMI.out _).mono ?_
  rintro e w' ⟨rfl, rfl⟩
  go_wp2_with fail
  refine (HMK.out _).mono ?_
  rintro e w' ⟨rfl, rfl⟩
  go_wp2_with fail
  refine (cloneRows_any Xp _ xc X _ HX.out (by omega) (by omega)).mono ?_
  rintro e w9 ⟨g, c9, vs, rfl, hov, hrs, hb⟩
  obtain ⟨ad, By, my, dy, rfl, hcy8, hsy⟩ := HX.out.at_ hyk
  obtain ⟨ad', Bx, mx, dx', e, hcx8, hsx⟩ := HX.out.at_ hx
  injection e with e
  subst e
  have hadl : ad.block < w8.heap.size := by
    have := World.block_lt_of_cell? w8 _ hcy8
    rwa [block_of_add] at this
  have hg := (hov.lt g rfl).1
  have hcy : w9.cell? (ad.add y) = some (.slice By my dy) := by rw [hb.cell (by rw [block_of_add]; exact hadl)]; exact hcy8
  have hcx : w9.cell? (ad.add x) = some (.slice Bx mx dx') := by rw [hb.cell (by rw [block_of_add]; exact hadl)]; exact hcx8
  have HCY := hide hcy
  have HCX := hide hcx
  have had9 : ad.block < w9.heap.size := Nat.lt_of_lt_of_le hadl hb.size
  have hov' : OwnV w9.drew w8.heap.size (some ⟨g, 0, none⟩) xn c9 vs := hov.keep (KeepT.below (Below.refl _ _).drew)
  have hvl := hov.len
  have HOV := hide hov'
  have HRS := hide (RowsS.set_ (j := y) (RowsS.set_ (j := x) hrs hsy) hsx)
  have HB9 := hide hb
  have HDN : Hid (ad.block ≠ g) := hide (by omega)
  have HAL := hide had9
  have HVL := hide hvl
  clear hov hov' hrs hb hcy8 hcx8 hsy hsx hadl hg hcy hcx had9 hvl HX
  go_upto_region 10 with fail
  refine wp_region_noPanic ?_
  refine wp_region_held_drew (S := fun w' => w9.grownBy w' (some g)) (by kernel_rfl) ((World.grownBy.refl _ _).trans (grownBy_of_below (Below.refl _ _).drew _)) (fun hS => ?_)
  refine wpAnyH_tk 0 (v := .slice (some ⟨g, 0, none⟩) xn c9) rfl (by kernel_rfl) (by kernel_rfl) (by kernel_rfl) (yi rfl fun w' hw' => gives_move (.inl rfl) rfl) hS ?_
  go_frame
  refine wpAnyH_tk 1 (v := .int .i64 x) rfl (by kernel_rfl) (by kernel_rfl) (by kernel_rfl) (yi rfl fun w' hw' => gives_move (.inl rfl) rfl) hS ?_
  go_frame
  refine wpAnyH_tk 2 (v := .slice (some ⟨g, 0, none⟩) xn c9) rfl (by kernel_rfl) (by kernel_rfl) (by kernel_rfl) (yi rfl fun w' hw' => gives_move (.inl rfl) rfl) hS ?_
  go_frame
  refine wpAnyH_tk 3 (v := .int .i64 y) rfl (by kernel_rfl) (by kernel_rfl) (by kernel_rfl) (yi rfl fun w' hw' => gives_move (.inl rfl) rfl) hS ?_
  go_frame
  refine wpAnyH_tk 4 (v := .slice (some ad) xn xc) rfl (by kernel_rfl) (by kernel_rfl) (by kernel_rfl) (yi rfl fun w' hw' => gives_move (.inl rfl) rfl) hS ?_
  go_frame
  refine wpAnyH_tk 5 (v := .int .i64 y) rfl (by kernel_rfl) (by kernel_rfl) (by kernel_rfl) (yi rfl fun w' hw' => gives_move (.inl rfl) rfl) hS ?_
  go_frame
  refine wpAnyH_tk 6 (v := .pointer (some (ad.add y))) rfl (by kernel_rfl) (by kernel_rfl) (by kernel_rfl) (yi rfl fun w' hw' => gives_indexA rfl Tryd.underlying22 (fun w => by kernel_rfl) rfl rfl hyk) hS ?_
  go_frame
  refine wpAnyH_tk 7 (v := .slice By my dy) rfl (by kernel_rfl) (by kernel_rfl) (by kernel_rfl) (yi rfl fun w' hw' => gives_load1 rfl (by kernel_rfl) rfl ((hw'.cell_far (ad.add y) (by rw [block_of_add]; exact HAL.out) (by rw [block_of_add]; exact fun e => HDN.out (by injection e))).trans HCY.out)) hS ?_
  go_frame
  refine wpAnyH_tk 8 (v := .slice (some ad) xn xc) rfl (by kernel_rfl) (by kernel_rfl) (by kernel_rfl) (yi rfl fun w' hw' => gives_move (.inl rfl) rfl) hS ?_
  go_frame
  refine wpAnyH_tk 9 (v := .int .i64 x) rfl (by kernel_rfl) (by kernel_rfl) (by kernel_rfl) (yi rfl fun w' hw' => gives_move (.inl rfl) rfl) hS ?_
  go_frame
  refine wpAnyH_tk 10 (v := .pointer (some (ad.add x))) rfl (by kernel_rfl) (by kernel_rfl) (by kernel_rfl) (yi rfl fun w' hw' => gives_indexA rfl Tryd.underlying22 (fun w => by kernel_rfl) rfl rfl hx) hS ?_
  go_frame
  refine wpAnyH_tk 11 (v := .slice Bx mx dx') rfl (by kernel_rfl) (by kernel_rfl) (by kernel_rfl) (yi rfl fun w' hw' => gives_load1 rfl (by kernel_rfl) rfl ((hw'.cell_far (ad.add x) (by rw [block_of_add]; exact HAL.out) (by rw [block_of_add]; exact fun e => HDN.out (by injection e))).trans HCX.out)) hS ?_
  go_frame
  refine wpAnyH_tk 12 (v := .pointer (some ⟨g, x * 1, none⟩)) rfl (by kernel_rfl) (by kernel_rfl) (by kernel_rfl) (yi rfl fun w' hw' => gives_indexB rfl Tryd.underlying22 (fun w => by kernel_rfl) rfl rfl hx) hS ?_
  go_frame
  rw [Nat.mul_one]
  obtain ⟨gx, egx, hvx⟩ := HOV.out.cellAt hx
  injection egx with egx
  injection egx with egx
  subst egx
  refine wpAnyH_1 13 rfl (by kernel_rfl) ?_
  refine wp_storeS rfl (by kernel_rfl) (by kernel_rfl) rfl rfl (hvx.trans (List.getElem?_eq_getElem (by rw [HVL.out]; exact hx))) (HOV.out.frozen x) ?_
  have hov2 := HOV.out.set_ x (.slice By my dy)
  have hS2 : w9.grownBy (w9.drew.setCell ⟨g, x, none⟩ (.slice By my dy)) (some g) := hS.trans (grownBy_set1 _ g x _)
  refine ⟨hS2, ?_⟩
  go_frame
  refine wpAnyH_tk 14 (v := .pointer (some ⟨g, y * 1, none⟩)) rfl (by kernel_rfl) (by kernel_rfl) (by kernel_rfl) (yi rfl fun w' hw' => gives_indexB rfl Tryd.underlying22 (fun w => by kernel_rfl) rfl rfl hyk) hS2 ?_
  go_frame
  rw [Nat.mul_one]
  obtain ⟨gy, egy, hvy⟩ := hov2.cellAt hyk
  injection egy with egy
  injection egy with egy
  subst egy
  refine wpAnyH_1 15 rfl (by kernel_rfl) ?_
  refine wp_storeS rfl (by kernel_rfl) (by kernel_rfl) rfl rfl (hvy.trans (List.getElem?_eq_getElem (by rw [List.length_set, HVL.out]; exact hyk))) (hov2.frozen y) ?_
  have hov3 := hov2.set_ y (.slice Bx mx dx')
  have hS3 : w9.grownBy ((w9.drew.setCell ⟨g, x, none⟩ (.slice By my dy)).setCell ⟨g, y, none⟩ (.slice Bx mx dx')) (some g) := hS2.trans (grownBy_set1 _ g y _)
  refine ⟨hS3, ?_⟩
  go_frame
  refine wpAnyH_done (by kernel_rfl) (noPanic_mk ?_) _
  have hgg := (HOV.out.lt g rfl).1
  have hb10 : Below w8.heap.size w8 ((w9.drew.setCell ⟨g, x, none⟩ (.slice By my dy)).setCell ⟨g, y, none⟩ (.slice Bx mx dx')) := (HB9.out.drew.setCell hgg _).setCell hgg _
  have HSW : Hid (SLL ((w9.drew.setCell ⟨g, x, none⟩ (.slice By my dy)).setCell ⟨g, y, none⟩ (.slice Bx mx dx')) (some ⟨g, 0, none⟩) xn c9 (swapL X x y)) := hide (hov3.sll (HRS.out.below hb10))
  replace HP : Hid (SL ((w9.drew.setCell ⟨g, x, none⟩ (.slice By my dy)).setCell ⟨g, y, none⟩ (.slice Bx mx dx')) Pp pn pc (smithL X)) := hide (HP.out.below hb10)
  replace HQ : Hid (SL ((w9.drew.setCell ⟨g, x, none⟩ (.slice By my dy)).setCell ⟨g, y, none⟩ (.slice Bx mx dx')) Qp qn qc (smithL X)) := hide (HQ.out.below hb10)
  replace HW := hide (HW.out.trans (hb10.mono HW.out.size))
  clear hgg hb10 hov2 hov3 hS hS2 hS3 hvx hvy HOV HRS HB9 HDN HAL HVL HCX HCY
  generalize (w9.drew.setCell ⟨g, x, none⟩ (.slice By my dy)).setCell ⟨g, y, none⟩ (.slice Bx mx dx') = w10 at *
  go_wp2_with fail
  refine (HF.out.det _ _ c9 _ _ HSW.out (HTW.out.below HW.out)).mono ?_
  rintro e w11 ⟨rfl, hb⟩
  rw [HDS.out.1, HDS.out.2]
  replace HP := hide (HP.out.below hb)
  replace HQ := hide (HQ.out.below hb)
  replace HW := hide (HW.out.trans (hb.mono HW.out.size))
  clear hb HSW
  go_wp2_with fail
  refine (reckoned2_any HF.out _ (HTW.out.below HW.out)).mono ?_
  rintro e w12 ⟨rfl, hb⟩
  replace HP := hide (HP.out.below hb)
  replace HQ := hide (HQ.out.below hb)
  replace HW := hide (HW.out.trans (hb.mono HW.out.size))
  clear hb
  generalize detR xn (matF X) = dd at *
  have hneg : IntKind.i64.wrap (-dd) = -dd := by rw [IntKind.wrap_i64]; omega
  have he1 : (dd == dd) = true := by simp
  go_wp2_with fail
  refine (equal_any Pp Qp pn qn pc qc _ _ _ HP.out.il HQ.out.il).mono ?_
  rintro e w13 ⟨rfl, hb⟩
  rw [eqB_true rfl]
  replace HW := hide (HW.out.trans (hb.mono HW.out.size))
  clear hb
  go_wp2_with fail
  go_ret
  exact ⟨by simp, HW.out⟩
end Go.Proofs.YtgjblcfcbohjdaaDoor
