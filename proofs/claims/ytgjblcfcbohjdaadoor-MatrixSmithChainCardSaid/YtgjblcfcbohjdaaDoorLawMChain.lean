/- SMITH: timbkeep1.MatrixSmithChain, for a package intmatrix that answers as it should. -/
import Derived.Test.YtgjblcfcbohjdaaDoorChainM
import Derived.Test.YtgjblcfcbohjdaaDoorCloneV
import Derived.Test.YtgjblcfcbohjdaaDoorDelFunc
import Derived.Test.YtgjblcfcbohjdaaDoorZeros
namespace Go.Proofs.YtgjblcfcbohjdaaDoor
set_option linter.unusedVariables false
set_option linter.unusedSimpArgs false
open Go.RowKit

theorem OwnV.blk {w : World} {base g n c : Nat} {vs : List Value} (h : OwnV w base (some ⟨g, 0, none⟩) n c vs) : ∃ cs, Blk w g 28 cs := by
  rcases h.own.2 with ⟨hv, _⟩ | ⟨g', cap, cur, hv, _, hh, _⟩
  · cases hv
  · simp only [Value.slice.injEq, Option.some.injEq, Addr.mk.injEq] at hv
    obtain ⟨⟨rfl, _⟩, _⟩ := hv
    exact ⟨cur, hh⟩
theorem OwnI.blk {w : World} {base g n c : Nat} {xs : List Int} (h : OwnI w base (some ⟨g, 0, none⟩) n c xs) : ∃ cs, Blk w g 3 cs := by
  rcases h.own.2 with ⟨hv, _⟩ | ⟨g', cap, cur, hv, _, hh, _⟩
  · cases hv
  · simp only [Value.slice.injEq, Option.some.injEq, Addr.mk.injEq] at hv
    obtain ⟨⟨rfl, _⟩, _⟩ := hv
    exact ⟨cur, hh⟩
theorem eChainCl : ∀ args w, (callFunc 29 args).run Tryd.prog w = .ok (.enter 29 args) w := enters (fn := Tryd.f29) (by kernel_rfl) (by kernel_rfl) (by kernel_rfl)
theorem chainCl_any (x : Int) (w : World) : Calls Tryd.prog 29 #[.int .i64 x] w fun e w' => e = .returned (.bool (x != 0)) ∧ w = w' := by
  go_enter Tryd.func29, Tryd.ntmps29
  go_wp2
  go_ret
  exact ⟨rfl, rfl⟩
/-- Row x after j additions. -/
def rowJ (X : List (List Int)) (m x y j : Nat) : List Int := (List.range m).map fun t => if t < j then matF X x t + matF X y t else matF X x t
theorem rowJ_getD {X : List (List Int)} {m x y j t : Nat} (ht : t < m) : (rowJ X m x y j).getD t 0 = if t < j then matF X x t + matF X y t else matF X x t := by simp [rowJ, List.getD, ht]
theorem rowJ_zero {X : List (List Int)} {m x y : Nat} (h : (X.getD x []).length = m) : rowJ X m x y 0 = X.getD x [] := by
  refine listI_extg (by rw [h]; simp [rowJ]) fun t ht => ?_
  simp only [rowJ, List.length_map, List.length_range] at ht
  rw [rowJ_getD ht, if_neg (by omega)]
  rfl
theorem rowJ_end (X : List (List Int)) (m x y : Nat) : rowJ X m x y m = (List.range m).map fun j => matF X x j + matF X y j := by
  unfold rowJ
  refine List.map_congr_left fun t ht => ?_
  rw [if_pos (List.mem_range.1 ht)]
theorem rowJ_set {X : List (List Int)} {m x y j : Nat} (hj : j < m) : (rowJ X m x y j).set j (matF X x j + matF X y j) = rowJ X m x y (j + 1) := by
  refine listI_extg (by simp [rowJ]) fun t ht => ?_
  simp only [rowJ, List.length_set, List.length_map, List.length_range] at ht
  rw [getD_setI _ _ _ _ (by simpa [rowJ] using ht), rowJ_getD ht, rowJ_getD ht]
  grind

set_option maxRecDepth 100000 in
set_option maxHeartbeats 8000000 in
theorem matrixChain_any (F : MatC) (A : Option Addr) (n c : Nat) (n0 m0 i0 k0 : Int) (xs : List Int) (w : World) (ha : SL w A n c xs) (hT : TabW w) :
    Calls Tryd.prog 8 #[.int .i64 n0, .int .i64 m0, .slice A n c, .int .i64 i0, .int .i64 k0] w fun e w' => e = .returned (.bool true) ∧ Below w.heap.size w w' := by
  have HF := hide F
  have HTW := hide hT
  clear hT
  have HA := hide ha
  obtain ⟨j1, hj1, hj12⟩ : ∃ j : Nat, j < 3 ∧ n0 % ((3 : Nat) : Int) = (j : Int) := ⟨(n0 % 3).toNat, by omega, by omega⟩
  obtain ⟨j2, hj2, hj22⟩ : ∃ j : Nat, j < 4 ∧ m0 % ((4 : Nat) : Int) = (j : Int) := ⟨(m0 % 4).toNat, by omega, by omega⟩
  have HM1 : Hid (∀ w, Calls Tryd.prog 21 #[.int .i64 n0, .int .i64 3] w fun e w' => e = .returned (.int .i64 j1) ∧ w = w') := hide (fun w => by
    have h := mbelow_any n0 3 w (by omega) (by omega)
    rw [hj12] at h
    exact h)
  have HM2 : Hid (∀ w, Calls Tryd.prog 21 #[.int .i64 m0, .int .i64 4] w fun e w' => e = .returned (.int .i64 j2) ∧ w = w') := hide (fun w => by
    have h := mbelow_any m0 4 w (by omega) (by omega)
    rw [hj22] at h
    exact h)
  obtain ⟨k, hk⟩ : ∃ k, 2 + j1 = k := ⟨_, rfl⟩
  obtain ⟨m, hm⟩ : ∃ m, 1 + j2 = m := ⟨_, rfl⟩
  have hk1 : 2 ≤ k := by omega
  have hk4 : k ≤ 4 := by omega
  have hm1 : 0 < m := by omega
  have hm4 : m ≤ 4 := by omega
  have hjk : (2 : Int) + (j1 : Int) = (k : Int) := by omega
  have hjm : (1 : Int) + (j2 : Int) = (m : Int) := by omega
  have HBX := hide (rawM_box k m xs 30)
  have HMX : Hid (∀ (w : World) (A : Option Addr) (n c : Nat), SL w A n c xs → Calls Tryd.prog 22 #[.int .i64 k, .int .i64 m, .slice A n c, .int .i64 30] w fun e w' => ∃ A m' d, e = .returned (.slice A m' d) ∧ SLL w' A m' d (rawM k m xs 30) ∧ Below w.heap.size w w') := hide (fun w A n c h => mmatrix_any A n c xs k m 30 w h.il (by omega) (by omega) (by omega))
  obtain ⟨X, hX⟩ : ∃ X, rawM k m xs 30 = X := ⟨_, rfl⟩
  rw [hX] at HBX HMX
  -- the row numbers
  obtain ⟨x, hx, hx2⟩ : ∃ x : Nat, x < k ∧ i0 % ((k : Nat) : Int) = (x : Int) := ⟨(i0 % k).toNat, by
    have := Int.emod_nonneg i0 (show (k : Int) ≠ 0 by omega)
    have := Int.emod_lt_of_pos i0 (show (0 : Int) < (k : Int) by omega)
    omega, by
    have := Int.emod_nonneg i0 (show (k : Int) ≠ 0 by omega)
    omega⟩
  have HMI : Hid (∀ w, Calls Tryd.prog 21 #[.int .i64 i0, .int .i64 k] w fun e w' => e = .returned (.int .i64 x) ∧ w = w') := hide (fun w => by
    have h := mbelow_any i0 k w (by omega) (by omega)
    rw [hx2] at h
    exact h)
  obtain ⟨b, hb, hb2⟩ : ∃ b : Nat, b < k - 1 ∧ k0 % ((k - 1 : Nat) : Int) = (b : Int) := ⟨(k0 % ((k - 1 : Nat) : Int)).toNat, by
    have := Int.emod_nonneg k0 (show ((k - 1 : Nat) : Int) ≠ 0 by omega)
    have := Int.emod_lt_of_pos k0 (show (0 : Int) < ((k - 1 : Nat) : Int) by omega)
    omega, by
    have := Int.emod_nonneg k0 (show ((k - 1 : Nat) : Int) ≠ 0 by omega)
    omega⟩
  have HMK : Hid (∀ w, Calls Tryd.prog 21 #[.int .i64 k0, .int .i64 ((k : Int) - 1)] w fun e w' => e = .returned (.int .i64 b) ∧ w = w') := hide (fun w => by
    have h := mbelow_any k0 (k - 1) w (by omega) (by omega)
    rw [hb2, show ((k - 1 : Nat) : Int) = (k : Int) - 1 by omega] at h
    exact h)
  obtain ⟨y, hy⟩ : ∃ y, (x + 1 + b) % k = y := ⟨_, rfl⟩
  have hyk : y < k := by rw [← hy]; exact Nat.mod_lt _ (by omega)
  have hxy : x ≠ y := by
    rw [← hy]
    by_cases h : x + 1 + b < k
    · rw [Nat.mod_eq_of_lt h]; omega
    · rw [Nat.mod_eq_sub_mod (by omega), Nat.mod_eq_of_lt (by omega)]; omega
  have hyi : ((x : Int) + 1 + (b : Int)).tmod (k : Int) = (y : Int) := by
    rw [Int.tmod_eq_emod_of_nonneg (by omega), ← hy]
    push_cast
    rfl
  -- the mathematics
  obtain ⟨P, hP⟩ := chain_facts HBX.out (by omega) (by omega) (by omega) (by omega)
  have HP := hide hP
  have HFX := hide (HBX.out.fault (by omega) (by omega) (by omega))
  have HFY := hide ((HBX.out.add hx hyk).fault (by omega) (by omega) (by omega))
  have HSA := hide (smith_add HBX.out (by omega) (by omega) (by omega) (by omega) hx hyk hxy)
  have HXY := hide (And.intro hx (And.intro hyk hxy))
  clear F ha hj12 hj22 hX hx2 hb2 hy hxy hP
  go_enter Tryd.func8, Tryd.ntmps8
  go_wp2_with fail
  refine (HM1.out _).mono ?_
  rintro e w' ⟨rfl, rfl⟩
  clear hk
  go_wp2_with fail
  refine (HM2.out _).mono ?_
  rintro e w' ⟨rfl, rfl⟩
  clear hm
  go_wp2_with fail
  refine (HMX.out _ _ _ _ HA.out).mono ?_
  rintro e w1 ⟨Xp, xn, xc, rfl, hs, hb⟩
  have HX := hide hs
  have HW := hide hb
  clear hs hb HMX HA HM1 HM2 hjk hjm
  have hxn : xn = k := by rw [← HX.out.len]; exact HBX.out.len
  subst hxn
  go_wp2_with fail
  refine (HF.out.smith Xp _ xc X _ HX.out (HTW.out.below HW.out)).mono ?_
  rintro e w6 ⟨Pp, pn, pc, rfl, hs, hb⟩
  rw [HFX.out]
  have HL := hide hs
  replace HX := hide (HX.out.below hb)
  replace HW := hide (HW.out.trans (hb.mono HW.out.size))
  clear hs hb
  have hpn : pn = min xn m := by rw [← HL.out.il.len]; exact HP.out.len
  have HPN := hide hpn
  clear hpn
  go_upto_region 4 with fail
  go_cut [42, 43, 44, 45, 46, 47, 48, 49, 50, 51, 52, 53, 54, 55] (fun _ _ _ _ _ _ _ _ _ _ _ _ _ v wx => v = .bool false ∧ Below w6.heap.size w6 wx)
  case first =>
    go_wp2_with fail
    refine (reckoned2_any HF.out _ (HTW.out.below HW.out)).mono ?_
    rintro e w7 ⟨rfl, hb⟩
    have HB := hide hb
    clear hb
    have hpn := HPN.out
    by_cases hmn : m < xn
    · have hpm : m = pn := by omega
      clear hpn HPN
      subst hpm
      go_wp2_with fail
      all_goals first
        | (exfalso; omega)
        | (go_meet; exact ⟨rfl, HB.out⟩)
    · have hpm : pn = xn := by omega
      clear hpn HPN
      subst hpm
      go_wp2_with fail
      all_goals first
        | (exfalso; omega)
        | (go_meet; exact ⟨rfl, HB.out⟩)
  case rest =>
    obtain ⟨rfl, hb⟩ := hcut
    replace HX := hide (HX.out.below hb)
    replace HL := hide (HL.out.below hb)
    replace HW := hide (HW.out.trans (hb.mono HW.out.size))
    clear hb
    go_wp2_with fail
    have hpn6 : pn ≤ 4 := by have := HPN.out; omega
    go_loop [14, 58] (fun av iv => ∃ j : Nat, j ≤ pn ∧ iv = .int .i64 j ∧ av = .int .i64 (P j)) (fun _ iv => pn - (intOf iv).toNat)
    case atStart => exact ⟨0, Nat.zero_le _, rfl, by rw [HP.out.zero]⟩
    case round =>
      obtain ⟨j, hj, rfl, rfl⟩ := hrel
      by_cases hlt : j < pn
      · obtain ⟨ad, rfl, hc⟩ := HL.out.il.at_ hlt
        have hjm : j < min xn m := by have := HPN.out; omega
        have hx0 := HP.out.nonneg j hjm
        have hx1 := HP.out.le j hjm
        have hp1 := HP.out.pos (j + 1) hjm
        have HST := hide (HP.out.step j hjm)
        have HDV : Hid (∀ i, j = i + 1 → (smithL X).getD i 0 ≠ 0 → ((smithL X).getD j 0).tmod ((smithL X).getD i 0) = 0) := hide (fun i e hz => by subst e; exact HP.out.div i hjm hz)
        have HNO : Hid (∀ i, j = i + 1 → (smithL X).getD i 0 = 0 → (smithL X).getD j 0 = 0) := hide (fun i e hz => by subst e; exact HP.out.none i hjm hz)
        obtain ⟨v, hv⟩ : ∃ v, (smithL X).getD j 0 = v := ⟨_, rfl⟩
        rw [hv] at hc hx0 hx1 HST HDV HNO
        have hwp : IntKind.i64.wrap (P j * v) = P j * v := by rw [← HST.out, IntKind.wrap_i64]; omega
        have hd0 : decide (v < 0) = false := decide_eq_false (by omega)
        clear hv hp1
        obtain ⟨pj, hpj⟩ : ∃ pj, P j = pj := ⟨_, rfl⟩
        rw [hpj] at hwp HST ⊢
        clear hpj
        by_cases hj0 : j = 0
        · subst hj0
          rw [show ad.add 0 = ad by unfold Addr.add; simp] at hc
          go_wp2_with fail
          go_round
          case rel => exact ⟨1, by omega, by go_num, by rw [HST.out]⟩
          case measure => simp [intOf]; omega
        · obtain ⟨i, hij⟩ : ∃ i, j = i + 1 := ⟨j - 1, by omega⟩
          obtain ⟨ad', e, hci⟩ := HL.out.il.at_ (show i < pn by omega)
          injection e with e
          subst e
          have hDV := HDV.out i hij
          have hNO := HNO.out i hij
          have hji : (j : Int) - 1 = (i : Int) := by omega
          have hil : i < pn := by omega
          obtain ⟨u, hu⟩ : ∃ u, (smithL X).getD i 0 = u := ⟨_, rfl⟩
          rw [hu] at hci hDV hNO
          clear hu HDV HNO
          have hgt : decide ((0 : Int) < (j : Int)) = true := decide_eq_true (by omega)
          clear hij
          by_cases hu0 : u = 0
          · have hv0 := hNO hu0
            subst hu0
            subst hv0
            clear hDV hNO
            go_wp2_with fail
            go_round
            case rel => exact ⟨j + 1, by omega, by go_num, by rw [HST.out, Int.mul_zero]⟩
            case measure => simp [intOf]; omega
          · have hv0 := hDV hu0
            have hb1 : (u == 0) = false := by simpa using hu0
            have hb2 : (u != 0) = true := by simpa using hu0
            clear hDV hNO
            go_wp2_with fail
            go_round
            case rel => exact ⟨j + 1, by omega, by go_num, by rw [HST.out]⟩
            case measure => simp [intOf]; omega
      · have hjp : pn = j := by omega
        subst hjp
        have hppos := HP.out.pos pn (by have := HPN.out; omega)
        have HDE : Hid (xn = m → P pn = ((detR xn (matF X)).natAbs : Int)) := hide (fun e => by rw [← HP.out.det e, HPN.out, ← e, Nat.min_self])
        obtain ⟨pj, hpj⟩ : ∃ pj, P pn = pj := ⟨_, rfl⟩
        rw [hpj] at HDE hppos ⊢
        clear hpj
        go_upto_if 105 with fail
        rename World => wd
        go_cut [17, 18, 106, 107, 108, 109, 110, 111, 112, 113, 114, 115, 116, 117, 118, 119, 120] (fun _ _ _ _ _ _ _ _ _ _ _ _ _ _ _ _ _ wx => Below wd.heap.size wd wx)
        case first =>
          by_cases hnm : xn = m
          · have HDE2 := hide (HDE.out hnm)
            subst hnm
            have HDX := hide (HBX.out.det (by omega) (by omega) (by omega))
            have hdb := detR_bound (n := xn) (B := 30) (by omega) (by omega) HBX.out.le
            clear HDE
            go_wp2_with fail
            refine (HF.out.det Xp _ xc X _ HX.out (HTW.out.below HW.out)).mono ?_
            rintro e w8 ⟨rfl, hb⟩
            rw [HDX.out.1, HDX.out.2]
            have HB := hide hb
            clear hb HDX
            generalize detR xn (matF X) = dd at *
            have hneg : IntKind.i64.wrap (-dd) = -dd := by rw [IntKind.wrap_i64]; omega
            by_cases hs : dd < 0
            · have he : pj = -dd := by have := HDE2.out; omega
              clear HDE2
              subst he
              go_wp2_with fail
              all_goals first
                | (exfalso; omega)
                | (go_meet; exact HB.out)
            · have he : pj = dd := by have := HDE2.out; omega
              clear HDE2
              subst he
              go_wp2_with fail
              all_goals first
                | (exfalso; omega)
                | (go_meet; exact HB.out)
          · have hne : ((xn : Int) == (m : Int)) = false := by simp; omega
            go_wp2_with fail
            go_meet
            exact Below.refl _ _
        case rest =>
          replace HX := hide (HX.out.below hcut)
          replace HL := hide (HL.out.below hcut)
          replace HW := hide (HW.out.trans (hcut.mono HW.out.size))
          clear hcut HDE hppos
          go_wp2_with fail
          refine (HMI.out _).mono ?_
          rintro e w' ⟨rfl, rfl⟩
          go_wp2_with fail
          refine (HMK.out _).mono ?_
          rintro e w' ⟨rfl, rfl⟩
          clear HMI HMK
          go_wp2_with fail
          refine (cloneRows_any Xp _ xc X _ HX.out (by omega) (by omega)).mono ?_
          rintro e w9 ⟨g, c9, vs, rfl, hov, hrs, hb9⟩
          obtain ⟨ad, Bx, mx, dx, rfl, hcx, hsx⟩ := HX.out.at_ HXY.out.1
          obtain ⟨ad', By, my, dy, e, hcy, hsy⟩ := HX.out.at_ HXY.out.2.1
          injection e with e
          subst e
          have hlx := HBX.out.row x hx
          have hly := HBX.out.row y hyk
          have hmx : mx = m := by rw [← hsx.il.len]; exact hlx
          have hmy : my = m := by rw [← hsy.il.len]; exact hly
          subst hmx
          subst hmy
          have HSY := hide hsy
          have HOV := hide hov
          have HRS := hide hrs
          have HB9 := hide hb9
          have HLX := hide hlx
          have hadl : ad.block < wc.heap.size := by
            have := World.block_lt_of_cell? wc _ hcx
            rwa [block_of_add] at this
          have HAD := hide hadl
          have HCYC := hide hcy
          have hcx9 : w9.cell? (ad.add x) = some (.slice Bx my dx) := by rw [hb9.cell (by rw [block_of_add]; exact hadl)]; exact hcx
          have HCL := hide (clone_any Bx my dx (X.getD x []) w9 (hsx.below hb9).il hsx.nil)
          have hov2 := HOV.out
          clear hov hrs hb9 hsx hsy hcx hcy hlx hly hadl
          go_wp2_with fail
          refine HCL.out.mono ?_
          rintro e w10 ⟨RA, rn, gc, rfl, ho, hb10⟩
          have hrn : my = rn := by rw [← ho.len]; exact HLX.out.symm
          subst hrn
          obtain ⟨gr, rfl, hgr1, hgr2⟩ := ho.form hm1
          clear HCL
          have hov10 : OwnV w10 wc.heap.size (some ⟨g, 0, none⟩) xn c9 vs := hov2.keep (KeepT.below hb10)
          have hvl := hov2.len
          obtain ⟨g', eg, hvx⟩ := hov10.cellAt hx
          injection eg with eg
          injection eg with eg
          subst eg
          rw [List.getElem?_eq_getElem (show x < vs.length by rw [hvl]; exact hx)] at hvx
          have hfz := hov10.frozen x
          obtain ⟨cg, hbg⟩ := hov10.blk
          have hgl := (hov10.lt g rfl).1
          have HOV2 := hide (hov10.set_ x (.slice (some ⟨gr, 0, none⟩) my gc))
          have HOI2 : Hid (OwnI (w10.setCell ⟨g, x, none⟩ (.slice (some ⟨gr, 0, none⟩) my gc)) wc.heap.size (some ⟨gr, 0, none⟩) my gc (rowJ X my x y 0)) := hide (by
            rw [rowJ_zero HLX.out]
            exact (KeepT.set_ hbg (by decide) x _).ownI (ho.mono HB9.out.size))
          have HB11 : Hid (Below wc.heap.size wc (w10.setCell ⟨g, x, none⟩ (.slice (some ⟨gr, 0, none⟩) my gc))) := hide ((HB9.out.trans (hb10.mono HB9.out.size)).setCell hgl _)
          clear HOV hov2 ho hb10 hov10 hbg hgl HB9
          generalize vs[x] = vx at hvx
          go_wp2_with fail
          clear hvx hfz
          generalize w10.setCell ⟨g, x, none⟩ (.slice (some ⟨gr, 0, none⟩) my gc) = w11 at *
          rename World => wz
          go_loopw [144] (fun jv wr => ∃ j : Nat, j ≤ my ∧ jv = .int .i64 j ∧ OwnV wr wc.heap.size (some ⟨g, 0, none⟩) xn c9 (vs.set x (.slice (some ⟨gr, 0, none⟩) my gc)) ∧ OwnI wr wc.heap.size (some ⟨gr, 0, none⟩) my gc (rowJ X my x y j) ∧ Below wc.heap.size wc wr) (fun jv _ => my - (intOf jv).toNat)
          case atStart => exact ⟨0, Nat.zero_le _, rfl, HOV2.out, HOI2.out, HB11.out⟩
          case round =>
            clear HOV2 HOI2 HB11
            obtain ⟨j, hj, rfl, hov, hoi, hb⟩ := hrel
            have HOV := hide hov
            have HOI := hide hoi
            have HBR := hide hb
            clear hov hoi hb
            by_cases hlt : j < my
            · obtain ⟨adB, Be, hcd⟩ := HSY.out.il.at_ hlt
              subst Be
              have hadB : adB.block < wc.heap.size := by
                have := World.block_lt_of_cell? wc _ hcd
                rwa [block_of_add] at this
              obtain ⟨g', eg, hvx⟩ := HOV.out.cellAt hx
              injection eg with eg
              injection eg with eg
              subst eg
              rw [List.getElem?_set_self (by rw [hvl]; exact hx)] at hvx
              have hgl := (HOV.out.lt g rfl).2
              have hgrl := HOI.out.lt gr rfl
              have hci := HOI.out.cell hlt
              rw [rowJ_getD hlt, if_neg (Nat.lt_irrefl _)] at hci
              have hle1 := HBX.out.le x j
              have hle2 := HBX.out.le y j
              have HNX := hide ((HOI.out.drew).set_ j (matF X x j + matF X y j))
              rw [rowJ_set hlt] at HNX
              have hyd : (X.getD y []).getD j 0 = matF X y j := rfl
              rw [hyd] at hcd
              obtain ⟨a, hae⟩ : ∃ a, matF X x j = a := ⟨_, rfl⟩
              obtain ⟨d, hde⟩ : ∃ d, matF X y j = d := ⟨_, rfl⟩
              rw [hae] at hci hle1 HNX
              rw [hde] at hcd hle2 HNX
              have HWR : Hid (IntKind.i64.wrap (a + d) = a + d) := hide (by rw [IntKind.wrap_i64]; omega)
              have HCV : Hid (∀ w', Below wr.heap.size wr w' → w'.cell? ⟨g, x, none⟩ = some (.slice (some ⟨gr, 0, none⟩) my gc)) := hide (fun w' h => (h.cell (p := ⟨g, x, none⟩) hgl).trans hvx)
              have HCI : Hid (∀ w', Below wr.heap.size wr w' → w'.cell? ⟨gr, j, none⟩ = some (.int .i64 a)) := hide (fun w' h => (h.cell (p := ⟨gr, j, none⟩) hgrl.2).trans hci)
              have hsz := HBR.out.size
              have HCY : Hid (∀ w', Below wr.heap.size wr w' → w'.cell? (ad.add y) = some (.slice (some adB) my dy)) := hide (fun w' h => by
                rw [h.cell (by rw [block_of_add]; exact Nat.lt_of_lt_of_le HAD.out hsz), HBR.out.cell (by rw [block_of_add]; exact HAD.out)]
                exact HCYC.out)
              have HCD : Hid (∀ w', Below wr.heap.size wr w' → w'.cell? (adB.add j) = some (.int .i64 d)) := hide (fun w' h => by
                rw [h.cell (by rw [block_of_add]; exact Nat.lt_of_lt_of_le hadB hsz), HBR.out.cell (by rw [block_of_add]; exact hadB)]
                exact hcd)
              have hfz := (HOI.out.drew).frozen j
              obtain ⟨cg, hbg⟩ := (HOI.out.drew).blk
              have HVN := hide ((HOV.out.keep (KeepT.below (Below.refl _ _).drew)).keep (KeepT.set_ hbg (by decide) j (.int .i64 (a + d))))
              have HBN := hide (HBR.out.drew.setCell (p := ⟨gr, j, none⟩) hgrl.1 (.int .i64 (a + d)))
              clear hci hvx hcd hbg hyd hae hde
              go_upto_region 25 with fail
              refine wp_region_T (S := fun w' => Below wr.heap.size wr w') 16 (by kernel_rfl) (Below.refl _ _).drew (fun hS => ?_)
              refine wpT_tk 0 (v := .slice (some ⟨g, 0, none⟩) xn c9) rfl (by kernel_rfl) (by kernel_rfl) (by kernel_rfl) (by kernel_rfl) (yi rfl fun w' hw' => gives_move (.inl rfl) rfl) hS ?_
              go_frame
              refine wpT_tk 1 (v := .int .i64 x) rfl (by kernel_rfl) (by kernel_rfl) (by kernel_rfl) (by kernel_rfl) (yi rfl fun w' hw' => gives_move (.inl rfl) rfl) hS ?_
              go_frame
              refine wpT_tk 2 (v := .pointer (some ⟨g, x * 1, none⟩)) rfl (by kernel_rfl) (by kernel_rfl) (by kernel_rfl) (by kernel_rfl) (yi rfl fun w' hw' => gives_indexB rfl Tryd.underlying22 (fun w => by kernel_rfl) rfl rfl hx) hS ?_
              go_frame
              rw [Nat.mul_one]
              refine wpT_tk 3 (v := .slice (some ⟨gr, 0, none⟩) my gc) rfl (by kernel_rfl) (by kernel_rfl) (by kernel_rfl) (by kernel_rfl) (yi rfl fun w' hw' => gives_load1 rfl (by kernel_rfl) rfl (HCV.out w' hw')) hS ?_
              go_frame
              refine wpT_tk 4 (v := .int .i64 j) rfl (by kernel_rfl) (by kernel_rfl) (by kernel_rfl) (by kernel_rfl) (yi rfl fun w' hw' => gives_move (.inl rfl) rfl) hS ?_
              go_frame
              refine wpT_tk 5 (v := .pointer (some ⟨gr, j * 1, none⟩)) rfl (by kernel_rfl) (by kernel_rfl) (by kernel_rfl) (by kernel_rfl) (yi rfl fun w' hw' => gives_indexB rfl Tryd.underlying28 (fun w => by kernel_rfl) rfl rfl hlt) hS ?_
              go_frame
              rw [Nat.mul_one]
              refine wpT_tk 6 (v := .int .i64 a) rfl (by kernel_rfl) (by kernel_rfl) (by kernel_rfl) (by kernel_rfl) (yi rfl fun w' hw' => gives_load1 rfl (by kernel_rfl) rfl (HCI.out w' hw')) hS ?_
              go_frame
              refine wpT_tk 7 (v := .slice (some ad) xn xc) rfl (by kernel_rfl) (by kernel_rfl) (by kernel_rfl) (by kernel_rfl) (yi rfl fun w' hw' => gives_move (.inl rfl) rfl) hS ?_
              go_frame
              refine wpT_tk 8 (v := .int .i64 y) rfl (by kernel_rfl) (by kernel_rfl) (by kernel_rfl) (by kernel_rfl) (yi rfl fun w' hw' => gives_move (.inl rfl) rfl) hS ?_
              go_frame
              refine wpT_tk 9 (v := .pointer (some (ad.add y))) rfl (by kernel_rfl) (by kernel_rfl) (by kernel_rfl) (by kernel_rfl) (yi rfl fun w' hw' => gives_indexA rfl Tryd.underlying22 (fun w => by kernel_rfl) rfl rfl hyk) hS ?_
              go_frame
              refine wpT_tk 10 (v := .slice (some adB) my dy) rfl (by kernel_rfl) (by kernel_rfl) (by kernel_rfl) (by kernel_rfl) (yi rfl fun w' hw' => gives_load1 rfl (by kernel_rfl) rfl (HCY.out w' hw')) hS ?_
              go_frame
              refine wpT_tk 11 (v := .int .i64 j) rfl (by kernel_rfl) (by kernel_rfl) (by kernel_rfl) (by kernel_rfl) (yi rfl fun w' hw' => gives_move (.inl rfl) rfl) hS ?_
              go_frame
              refine wpT_tk 12 (v := .pointer (some (adB.add j))) rfl (by kernel_rfl) (by kernel_rfl) (by kernel_rfl) (by kernel_rfl) (yi rfl fun w' hw' => gives_indexA rfl Tryd.underlying28 (fun w => by kernel_rfl) rfl rfl hlt) hS ?_
              go_frame
              refine wpT_tk 13 (v := .int .i64 d) rfl (by kernel_rfl) (by kernel_rfl) (by kernel_rfl) (by kernel_rfl) (yi rfl fun w' hw' => gives_load1 rfl (by kernel_rfl) rfl (HCD.out w' hw')) hS ?_
              go_frame
              refine wpT_tk 14 (v := .int .i64 (a + d)) rfl (by kernel_rfl) (by kernel_rfl) (by kernel_rfl) (by kernel_rfl) (yi rfl fun w' hw' => gives_add rfl rfl rfl HWR.out) hS ?_
              go_frame
              refine wpT_tk 15 (v := .pointer (some ⟨gr, j * 1, none⟩)) rfl (by kernel_rfl) (by kernel_rfl) (by kernel_rfl) (by kernel_rfl) (yi rfl fun w' hw' => gives_indexB rfl Tryd.underlying28 (fun w => by kernel_rfl) rfl rfl hlt) hS ?_
              go_frame
              rw [Nat.mul_one]
              refine wpT_1 16 rfl (by kernel_rfl) ?_
              refine wp_storeI rfl (by kernel_rfl) (by kernel_rfl) rfl rfl (HCI.out _ hS) hfz ?_
              refine ⟨fun h => absurd rfl h, ?_⟩
              go_frame
              refine wpT_done (by kernel_rfl) (noPanic_mk ?_) _
              clear hS hfz HCV HCI HCY HCD
              generalize wr.drew.setCell ⟨gr, j, none⟩ (.int .i64 (a + d)) = w12 at *
              go_wp2_with fail
              go_roundw
              case rel => exact ⟨j + 1, by omega, by go_num, HVN.out, HNX.out, HBN.out⟩
              case measure => simp [intOf]; omega
            · have hjm : my = j := by omega
              subst hjm
              have HSLL : Hid (SLL wr (some ⟨g, 0, none⟩) xn c9 (addL X my x y)) := hide (by
                have h := HOI.out.sl
                rw [rowJ_end] at h
                exact HOV.out.sll (RowsS.set_ (j := x) (HRS.out.below HBR.out) h))
              replace HX := hide (HX.out.below HBR.out)
              replace HL := hide (HL.out.below HBR.out)
              replace HW := hide (HW.out.trans (HBR.out.mono HW.out.size))
              clear HOV HOI HBR HRS HSY HCYC hcx9 HLX HAD
              have HRK : Hid (rankV X = ((smithL X).countP fun x => !(x == 0) : Nat)) := rfl
              have HZL : Hid (((smithL X).countP fun x => !(x != 0)) + ((smithL X).countP fun x => !(x == 0)) = pn) := hide (by rw [zeros_len, HL.out.il.len])
              have hpn0 : 0 < pn := by have := HPN.out; omega
              go_wp2_with fail
              refine (HF.out.smith _ _ c9 _ _ HSLL.out (HTW.out.below HW.out)).mono ?_
              rintro e w13 ⟨Qp, qn, qc, rfl, hs, hb⟩
              rw [HFY.out]
              rw [HSA.out] at hs
              have HQ := hide hs
              replace HX := hide (HX.out.below hb)
              replace HL := hide (HL.out.below hb)
              replace HW := hide (HW.out.trans (hb.mono HW.out.size))
              clear hs hb HSLL
              go_wp2_with fail
              refine (HF.out.rank _ _ xc X _ HX.out (HTW.out.below HW.out)).mono ?_
              rintro e w14 ⟨rfl, hb⟩
              rw [HFX.out]
              replace HQ := hide (HQ.out.below hb)
              replace HL := hide (HL.out.below hb)
              replace HW := hide (HW.out.trans (hb.mono HW.out.size))
              clear hb HX
              obtain ⟨rk, hrk⟩ : ∃ rk, rankV X = rk := ⟨_, rfl⟩
              rw [hrk] at HRK ⊢
              clear hrk
              go_wp2_with fail
              refine (equal_any Qp Pp qn pn qc pc _ _ _ HQ.out.il HL.out.il).mono ?_
              rintro e w15 ⟨rfl, hb⟩
              rw [eqB_true rfl]
              replace HL := hide (HL.out.below hb)
              replace HW := hide (HW.out.trans (hb.mono HW.out.size))
              clear hb HQ
              have HCL := hide (clone_any Pp pn pc (smithL X) w15 HL.out.il HL.out.nil)
              go_wp2_with fail
              refine HCL.out.mono ?_
              rintro e w16 ⟨RA, rn, rc, rfl, ho, hb⟩
              have hrn : pn = rn := by rw [← ho.len, ← HL.out.il.len]
              subst hrn
              obtain ⟨gz, rfl, hgz1, hgz2⟩ := ho.form hpn0
              have hgw : w.heap.size ≤ gz := Nat.le_trans HW.out.size hgz1
              have HDL := hide (delFunc_any (caps := []) (fun x => x != 0) eChainCl w15.heap.size gz pn rc (smithL X) w16 ho chainCl_any)
              replace HW := hide (HW.out.trans (hb.mono HW.out.size))
              clear ho hb HCL HL
              go_wp2_with fail
              refine HDL.out.mono ?_
              rintro e w17 ⟨rfl, hg⟩
              replace HW := hide (HW.out.grown hg HW.out.size (fun k hk => by injection hk with hk; omega))
              clear hg HDL
              obtain ⟨zc, hzc⟩ : ∃ zc, ((smithL X).countP fun x => !(x != 0)) = zc := ⟨_, rfl⟩
              obtain ⟨nc, hnc⟩ : ∃ nc, ((smithL X).countP fun x => !(x == 0)) = nc := ⟨_, rfl⟩
              rw [hzc, hnc] at HZL
              rw [hnc] at HRK
              rw [hzc]
              clear hzc hnc
              have hrk : rk = (nc : Int) := HRK.out
              have hzl := HZL.out
              have hfin : (rk == (pn : Int) - (zc : Int)) = true := by
                have : rk = (pn : Int) - (zc : Int) := by omega
                simpa using this
              have hzp : zc ≤ pn := by omega
              clear hzl hrk HRK HZL
              go_wp2_with fail
              go_ret
              exact ⟨by simp, HW.out⟩
end Go.Proofs.YtgjblcfcbohjdaaDoor
