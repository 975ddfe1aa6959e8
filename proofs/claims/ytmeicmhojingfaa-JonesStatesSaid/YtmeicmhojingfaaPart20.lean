/- Several texts in one. -/
import Derived.Test.YtmeicmhojingfaaPart19
import Derived.Test.YtmeicmhojingfaaPart8
import Derived.Test.YtmeicmhojingfaaBase1
/- timblaw1.JonesStates, for a package jones that answers as it should. -/
namespace Go.Proofs.Ytmeicmhojingfaa
set_option linter.unusedVariables false
set_option linter.unusedSimpArgs false
open Go.RowKit

theorem joE_bad {m : Int} {xs : List Int} (h : bfault m xs ≠ 0) : joE m xs = bfault m xs := if_pos h
theorem joE_long {m : Int} {xs : List Int} (h : bfault m xs = 0) (hl : 12 < xs.length) : joE m xs = 2 := by unfold joE; rw [if_neg (by omega), if_pos hl]
theorem joE_fine {m : Int} {xs : List Int} (h : bfault m xs = 0) (hl : ¬ 12 < xs.length) : joE m xs = 0 := by unfold joE; rw [if_neg (by omega), if_neg hl]
theorem joB_none {m : Int} {xs : List Int} (h : joE m xs ≠ 0) : LP.canon (joB m xs) = (0, []) := by unfold joB; rw [if_neg h]; exact LP.canon_zero
theorem joP_none {m : Int} {xs : List Int} (h : joE m xs ≠ 0) : LP.canon (joP m xs) = (0, []) := by unfold joP; rw [if_neg h]; exact LP.canon_zero

theorem joE_zero {m : Int} {xs : List Int} (h : joE m xs = 0) : bfault m xs = 0 ∧ xs.length ≤ 12 := by
  unfold joE at h
  by_cases h1 : bfault m xs = 0
  · rw [if_neg (by omega)] at h
    by_cases h2 : 12 < xs.length
    · rw [if_pos h2] at h; cases h
    · exact ⟨h1, by omega⟩
  · rw [if_pos h1] at h; exact absurd h h1
section
variable {o : Oper} {a : Act} {w : World} {K : Act → World → Prop} {Q : Exit → Act → World → Prop}
theorem js_makeMap {t : TypeId} (ho : o.op = .makeMap t none) (hK : K (a.put o.dst (.map (some w.heap.size))) (w.alloc (.map #[] 0))) : o.wp Try.prog a w K Q := by
  unfold Oper.wp execOp
  rw [ho]
  simp [run_makeMap, Sem.run_bind, Result.andThen]
  exact hK
theorem js_insert {m x v : Operand} {t : TypeId} {b : Nat} {T : List Tm} {y z : Int} (hop : o.op = Op.insert t m x v) (ht : Try.prog.underlying t = some (.map 3 3)) (hm : a.eval m = .map (some b)) (h : MapI w b T) (hn : T.length < 1000000) (hx : a.eval x = .int .i64 y) (hv : a.eval v = .int .i64 z) (hy : (Lit.int .i64 y).wf = true)
    (hK : ∀ w', MapI w' b (putT T y z) → w.grownBy w' (some b) → w'.heap.size = w.heap.size → K (a.put o.dst undef) w') : o.wp Try.prog a w K Q := by
  obtain ⟨w', hrun, r1, r2, r3⟩ := h.store ht hy (v := z) hn
  unfold Oper.wp execOp
  rw [hop]
  simp [hm, hx, hv, hrun, Sem.run_bind, Result.andThen]
  exact hK w' r1 r2 r3
end
theorem gives_bit {P : Program} {o : Oper} {a : Act} {w : World} {x y : Operand} {ty : TypeId} {m k v : Int} (ho : o.op = .binOp .and 3 x y ty) (hx : a.eval x = .int .i64 m) (hy : a.eval y = .int .i64 k) (hz : bits BinOp.and .i64 m k = v) : Gives P o a w (.int .i64 v) := by
  subst hz
  unfold Gives execOp
  rw [ho]
  simp [hx, hy, eqGuard, binOp, Op.intBits, Sem.run_bind, Result.andThen]
  rfl
theorem jsPoly : ∀ args w, (callFunc 12 args).run Try.prog w = .ok (.enter 12 args) w := enters (fn := Try.f12) (by kernel_rfl) (by kernel_rfl) (by kernel_rfl)
theorem jsMul : ∀ args w, (callFunc 13 args).run Try.prog w = .ok (.enter 13 args) w := enters (fn := Try.f13) (by kernel_rfl) (by kernel_rfl) (by kernel_rfl)
theorem jsSame : ∀ args w, (callFunc 7 args).run Try.prog w = .ok (.enter 7 args) w := enters (fn := Try.f7) (by kernel_rfl) (by kernel_rfl) (by kernel_rfl)
theorem same_same (x : LP) (w : World) (A : Option Addr) (n c : Nat) (B : Option Addr) (m d : Nat) (ha : SL w A n c (LP.canon x).2) (hb : SL w B m d (LP.canon x).2) :
    Calls Try.prog 7 #[PV (LP.canon x).1 A n c, PV (LP.canon x).1 B m d] w fun e w' => e = .returned (.bool true) ∧ Below w.heap.size w w' := by
  have h := same_r (LP.canon x).1 A n c (LP.canon x).2 (LP.canon x).1 B m d (LP.canon x).2 w ha hb
  rw [show (decide ((LP.canon x).1 = (LP.canon x).1) && eqB (LP.canon x).2 (LP.canon x).2) = true by rw [eqB_true rfl]; simp] at h
  exact h

set_option maxRecDepth 100000 in
set_option maxHeartbeats 8000000 in
theorem jonesStates_any (F : JonesC) (m : Int) (A : Option Addr) (n c : Nat) (xs : List Int) (w : World) (ha : SL w A n c xs) (wm : (Lit.int .i64 m).wf = true) :
    Calls Try.prog 3 #[.int .i64 m, .slice A n c] w fun e w' => e = .returned (.bool true) ∧ Below w.heap.size w w' := by
  have HF := hide F
  have HWM := hide wm
  have HL := hide ha.il.len
  have hb0 : Below w.heap.size w (w.alloc (.cells #[.int .i64 1] 3)) := (Below.refl _ _).alloc (Nat.le_refl _) _
  have HA := hide (ha.below hb0)
  have HW := hide hb0
  have HS := hide (SL.lit w [1] (by simp) (cs := #[.int .i64 1]) rfl (m := 1) rfl)
  obtain ⟨fx, hfx⟩ : ∃ q, bfault m xs = q := ⟨_, rfl⟩
  have HFX := hide hfx
  obtain ⟨je, hje⟩ : ∃ q, joE m xs = q := ⟨_, rfl⟩
  have HJE := hide hje
  clear F wm ha hb0 hfx hje
  go_enter Try.func3, Try.ntmps3
  go_upto_region 1 with fail
  go_wp2_with fail
  refine (HF.out.bracket 2 _ 1 1 [1] _ HS.out (by decide)).mono ?_
  rintro e w1 ⟨B, bn, bc, rfl, hs, hn, hb⟩
  dsimp only at hs ⊢
  rw [joE_21, joB_21.1]
  rw [joB_21.2] at hs
  replace HA := hide (HA.out.below hb)
  replace HW := hide (HW.out.trans (hb.mono HW.out.size))
  have SB := hide hs
  clear hs hn hb HS
  go_upto_region 2 with fail
  have hb : Below w1.heap.size w1 (w1.alloc (.cells #[.int .i64 3, .slice B bn bc] 24)) := (Below.refl _ _).alloc (Nat.le_refl _) _
  have BP := hide (Blk.new w1 24 #[.int .i64 3, .slice B bn bc])
  replace HA := hide (HA.out.below hb)
  replace HW := hide (HW.out.trans (hb.mono HW.out.size))
  replace SB := hide (SB.out.below hb)
  obtain ⟨bp, hq⟩ : ∃ q, w1.heap.size = q := ⟨_, rfl⟩
  obtain ⟨w2, hw⟩ : ∃ x, w1.alloc (.cells #[.int .i64 3, .slice B bn bc] 24) = x := ⟨_, rfl⟩
  rw [hw] at BP HW HA SB ⊢
  rw [hq] at BP ⊢
  clear hb hq hw
  have hb : Below w2.heap.size w2 (w2.alloc (.cells #[.int .i64 (-1)] 3)) := (Below.refl _ _).alloc (Nat.le_refl _) _
  have HS := hide (SL.lit w2 [-1] (by simp) (cs := #[.int .i64 (-1)]) rfl (m := 1) rfl)
  have hq0 := BP.out.cell 0
  have hq1 := BP.out.cell 1
  simp at hq0 hq1
  replace HA := hide (HA.out.below hb)
  replace HW := hide (HW.out.trans (hb.mono HW.out.size))
  replace SB := hide (SB.out.below hb)
  clear hb
  go_wp2_with fail
  refine (same_r 3 B bn bc [-1] 3 _ 1 1 [-1] _ SB.out HS.out).mono ?_
  rintro e w3 ⟨rfl, hb⟩
  replace HA := hide (HA.out.below hb)
  replace HW := hide (HW.out.trans (hb.mono HW.out.size))
  have hee : (decide ((3 : Int) = 3) && eqB [-1] [-1]) = true := by rw [eqB_true rfl]; rfl
  rw [hee]
  clear hb hee hq0 hq1 HS SB BP
  go_wp2_with fail
  refine (braidFault_any m A n c xs _ HA.out.il HWM.out).mono ?_
  rintro e w4 ⟨rfl, hww⟩
  replace hww := hww.symm
  subst hww
  rw [HFX.out]
  obtain ⟨b5, hb5⟩ : ∃ b, (decide (fx = 0) && decide (12 < n)) = b := ⟨_, rfl⟩
  go_upto_region 5 with fail
  go_cut [31, 32, 33, 34, 35, 36, 37] (fun _ _ _ _ _ _ v wx => v = .bool b5 ∧ w4 = wx)
  case first =>
    by_cases h0 : fx = 0
    · have hfe : (fx == 0) = true := by simpa using h0
      have HB5 : Hid (decide ((12 : Int) < (n : Int)) = b5) := hide (by rw [← hb5, decide_eq_true h0, Bool.true_and]; exact decide_eq_decide.2 (by omega))
      clear hb5 h0
      go_wp2_with fail
      go_meet
      exact ⟨by rw [← HB5.out], rfl⟩
    · have hfe : (fx == 0) = false := by simpa using h0
      have HB5 : Hid (b5 = false) := hide (by rw [← hb5, decide_eq_false h0]; rfl)
      clear hb5 h0
      go_wp2_with fail
      go_meet
      exact ⟨by rw [HB5.out], rfl⟩
  case rest =>
  obtain ⟨rfl, hww⟩ := hcut
  subst hww
  have HB5 := hide hb5
  clear hb5
  go_upto_if 37 with fail
  go_cut [7] (fun v7 wx => v7 = .int .i64 je ∧ Below w4.heap.size w4 wx)
  case first =>
    by_cases h0 : fx = 0
    · subst h0
      by_cases h12 : 12 < n
      · have HE : Hid (je = 2) := hide (by rw [← HJE.out]; exact joE_long HFX.out (by rw [HL.out]; exact h12))
        have hb5 : b5 = true := by rw [← HB5.out, decide_eq_true h12]; rfl
        subst hb5
        go_wp2_with fail
        go_meet
        exact ⟨by rw [HE.out], Below.refl _ _⟩
      · have HE : Hid (je = 0) := hide (by rw [← HJE.out]; exact joE_fine HFX.out (by rw [HL.out]; exact h12))
        have hb5 : b5 = false := by rw [← HB5.out, decide_eq_false h12, Bool.and_false]
        subst hb5
        go_wp2_with fail
        go_meet
        exact ⟨by rw [HE.out], Below.refl _ _⟩
    · have HE : Hid (je = fx) := hide (by rw [← HJE.out, joE_bad (by rw [HFX.out]; exact h0), HFX.out])
      have hb5 : b5 = false := by rw [← HB5.out, decide_eq_false h0]; rfl
      subst hb5
      go_wp2_with fail
      go_meet
      exact ⟨by rw [HE.out], Below.refl _ _⟩
  case rest =>
    obtain ⟨rfl, hb⟩ := hcut
    replace HA := hide (HA.out.below hb)
    replace HW := hide (HW.out.trans (hb.mono HW.out.size))
    clear hb
    by_cases h0 : je = 0
    · subst h0
      by_cases h7 : 7 < n
      · go_wp2_with fail
        go_ret
        exact ⟨rfl, HW.out⟩
      · obtain ⟨hz, hz12⟩ := joE_zero HJE.out
        obtain ⟨hm1, hm6, hxl, hxx⟩ := bfault_zero hz
        obtain ⟨M, rfl⟩ : ∃ M : Nat, m = (M : Int) := ⟨m.toNat, by omega⟩
        have HOK := hide (okB_of (n := M) hxx)
        have hM1 : 1 ≤ M := by omega
        have hM6 : M ≤ 6 := by omega
        have HJB : Hid (joB (M : Int) xs = brk M xs) := hide (by unfold joB; rw [if_pos HJE.out, Int.toNat_natCast])
        have HJP : Hid (joP (M : Int) xs = jon M xs) := hide (by unfold joP; rw [if_pos HJE.out, Int.toNat_natCast])
        clear hz hz12 hm1 hm6 hxl hxx
        go_upto_region 9 with fail
        go_wp2_with fail
        refine (HF.out.bracket (M : Int) A n c xs _ HA.out HWM.out).mono ?_
        rintro e w5 ⟨P, pn, pc, rfl, hs, hn, hb⟩
        dsimp only at hs ⊢
        rw [HJB.out, HJE.out]
        rw [HJB.out] at hs
        replace HA := hide (HA.out.below hb)
        replace HW := hide (HW.out.trans (hb.mono HW.out.size))
        have SP := hide hs
        clear hs hn hb
        go_upto_region 10 with fail
        obtain ⟨lp, hlp⟩ : ∃ z, (LP.canon (brk M xs)).1 = z := ⟨_, rfl⟩
        rw [hlp]
        have HLP := hide hlp
        clear hlp
        have hb : Below w5.heap.size w5 (w5.alloc (.cells #[.int .i64 lp, .slice P pn pc] 24)) := (Below.refl _ _).alloc (Nat.le_refl _) _
        have BP := hide (Blk.new w5 24 #[.int .i64 lp, .slice P pn pc])
        replace HA := hide (HA.out.below hb)
        replace HW := hide (HW.out.trans (hb.mono HW.out.size))
        replace SP := hide (SP.out.below hb)
        obtain ⟨bp, hq⟩ : ∃ q, w5.heap.size = q := ⟨_, rfl⟩
        obtain ⟨w6, hw⟩ : ∃ x, w5.alloc (.cells #[.int .i64 lp, .slice P pn pc] 24) = x := ⟨_, rfl⟩
        rw [hw] at BP HW HA SP ⊢
        rw [hq] at BP ⊢
        clear hb hq hw
        go_wp2_with fail
        refine (HF.out.poly (M : Int) A n c xs _ HA.out HWM.out).mono ?_
        rintro e w7 ⟨Q, qn, qc, rfl, hs, hn, hb⟩
        dsimp only at hs ⊢
        rw [HJP.out, HJE.out]
        rw [HJP.out] at hs
        replace HA := hide (HA.out.below hb)
        replace HW := hide (HW.out.trans (hb.mono HW.out.size))
        replace SP := hide (SP.out.below hb)
        replace BP := hide (BP.out.below hb BP.out.lt)
        have SQ := hide hs
        clear hs hn hb
        go_upto_region 11 with fail
        obtain ⟨lq, hlq⟩ : ∃ z, (LP.canon (jon M xs)).1 = z := ⟨_, rfl⟩
        rw [hlq]
        have HLQ := hide hlq
        clear hlq
        have hb : Below w7.heap.size w7 (w7.alloc (.cells #[.int .i64 lq, .slice Q qn qc] 24)) := (Below.refl _ _).alloc (Nat.le_refl _) _
        have BQ := hide (Blk.new w7 24 #[.int .i64 lq, .slice Q qn qc])
        replace HA := hide (HA.out.below hb)
        replace HW := hide (HW.out.trans (hb.mono HW.out.size))
        replace SP := hide (SP.out.below hb)
        replace SQ := hide (SQ.out.below hb)
        replace BP := hide (BP.out.below hb BP.out.lt)
        obtain ⟨bq, hq⟩ : ∃ q, w7.heap.size = q := ⟨_, rfl⟩
        obtain ⟨w8, hw⟩ : ∃ x, w7.alloc (.cells #[.int .i64 lq, .slice Q qn qc] 24) = x := ⟨_, rfl⟩
        rw [hw] at BP BQ HW SP SQ HA ⊢
        rw [hq] at BQ ⊢
        clear hb hq hw
        go_upto_region 15 with fail
        go_wp2_with fail
        refine (states_any M A n c xs w8 HA.out hM1 hM6 HOK.out (by omega)).mono ?_
        rintro e w9 ⟨bt, rfl, hbt, ht, hb⟩
        have HT := hide ht
        replace HA := hide (HA.out.below hb)
        replace HW := hide (HW.out.trans (hb.mono HW.out.size))
        replace SP := hide (SP.out.below hb)
        replace SQ := hide (SQ.out.below hb)
        replace BP := hide (BP.out.below hb BP.out.lt)
        replace BQ := hide (BQ.out.below hb BQ.out.lt)
        clear hb ht hbt
        go_upto_region 16 with fail
        go_wp2_with fail
        refine (weight_any A n c xs w9 HA.out.il (fun x hx => by have := HOK.out x hx; omega)).mono ?_
        rintro e w10 ⟨rfl, hww⟩
        subst hww
        go_upto_region 17 with fail
        have hkl := LP.expo_le xs
        rw [HL.out] at hkl
        have hjd : jon M xs = brk M xs * LP.term (-3 * LP.expo xs) (if LP.expo xs % 2 = 0 then 1 else -1) := rfl
        obtain ⟨k, hk⟩ : ∃ z, LP.expo xs = z := ⟨_, rfl⟩
        rw [hk] at hkl hjd ⊢
        obtain ⟨o, ho⟩ : ∃ z, k % 2 = z := ⟨_, rfl⟩
        have hand : bits BinOp.and IntKind.i64 k 1 = o := by rw [i64_and1, ho]
        have hs1 : (if k % 2 = 0 then (1 : Int) else -1) = 1 - 2 * o := by split <;> omega
        rw [hs1] at hjd
        have ho2 : 0 ≤ o ∧ o < 2 := by omega
        have w3k : IntKind.i64.wrap (-3 * k) = -3 * k := by rw [IntKind.wrap_i64]; omega
        have w2o : IntKind.i64.wrap (2 * o) = 2 * o := by rw [IntKind.wrap_i64]; omega
        have w1o : IntKind.i64.wrap (1 - 2 * o) = 1 - 2 * o := by rw [IntKind.wrap_i64]; omega
        have hwf : (Lit.int .i64 (-3 * k)).wf = true := wfI (by omega)
        have HSm1 := hide (fun (w : World) (B : Option Addr) (m d : Nat) (h1 : SL w P pn pc (LP.canon (brk M xs)).2) (h2 : SL w B m d (LP.canon (brk M xs)).2) => same_same (brk M xs) w P pn pc B m d h1 h2)
        have HSm2 := hide (fun (w : World) (B : Option Addr) (m d : Nat) (h1 : SL w Q qn qc (LP.canon (jon M xs)).2) (h2 : SL w B m d (LP.canon (jon M xs)).2) => same_same (jon M xs) w Q qn qc B m d h1 h2)
        rw [HLP.out] at HSm1
        rw [HLQ.out] at HSm2
        have hcb : CB (brk M xs) 80000 := CB.n1 ((brk_n1 hM1 hM6 (okB_nat HOK.out) (by rw [HL.out]; omega)).mono (Nat.le_refl _) (Nat.le_trans (Nat.mul_le_mul_left 32 (Nat.pow_le_pow_right (by omega) (show xs.length ≤ 7 by rw [HL.out]; omega))) (by decide)))
        have hpt : TV w10 bt (brk M xs) 40 := HT.out
        have lbp := BP.out.lt
        have lbq := BQ.out.lt
        refine wp_region_noPanic ?_
        refine wp_region_held_drew (S := fun z => Below w10.heap.size w10.drew z) (by kernel_rfl) (Below.refl _ _) (fun hS0 => ?_)
        replace BP := hide (BP.out.below (Below.refl _ _).drew lbp)
        replace BQ := hide (BQ.out.below (Below.refl _ _).drew lbq)
        replace SP := hide (SP.out.below (Below.refl _ _).drew)
        replace SQ := hide (SQ.out.below (Below.refl _ _).drew)
        replace HT := hide (HT.out.below (Below.refl _ _).drew)
        change bp < w10.drew.heap.size at lbp
        change bq < w10.drew.heap.size at lbq
        refine wpAnyH_tk 0 (v := PV lp P pn pc) rfl (by kernel_rfl) (by kernel_rfl) (by kernel_rfl) (yi rfl fun z hz => gives_loadRow rfl rfl (BP.out.below hz lbp) Try.underlying24 (by kernel_rfl) (by kernel_rfl)) hS0 ?_
        go_frame
        refine wpAnyH_tk 1 (v := .map (some bt)) rfl (by kernel_rfl) (by kernel_rfl) (by kernel_rfl) (yi rfl fun z hz => gives_move (.inl rfl) rfl) hS0 ?_
        go_frame
        refine wpAnyH_1 2 rfl (by kernel_rfl) ?_
        refine wp_call [.map (some bt)] rfl rfl jsPoly rfl ((tv_poly HT.out (by omega)).mono ?_)
        rintro e w2 ⟨B2, m2, d2, rfl, hs, hn, hb⟩
        have hS2 : Below w10.heap.size w10.drew w2 := hS0.trans hb
        have hss := HSm1.out w2 B2 m2 d2 (SP.out.below hb) hs
        rw [HLP.out]
        clear hn hs
        refine ⟨_, rfl, hS2, ?_⟩
        go_frame
        refine wpAnyH_1 3 rfl (by kernel_rfl) ?_
        refine wp_call [PV lp P pn pc, PV lp B2 m2 d2] rfl rfl jsSame rfl (hss.mono ?_)
        rintro e w3 ⟨rfl, hb3⟩
        have hS3 : Below w10.heap.size w10.drew w3 := hS2.trans (hb3.mono hS2.size)
        clear hb hb3 hss
        refine ⟨_, rfl, hS3, ?_⟩
        go_frame
        refine wpAnyH_tk 4 (v := .bool true) rfl (by kernel_rfl) (by kernel_rfl) (by kernel_rfl) (yi rfl fun z hz => gives_move (.inl rfl) rfl) hS3 ?_
        go_frame
        refine wpAnyH_tk 5 (v := PV lq Q qn qc) rfl (by kernel_rfl) (by kernel_rfl) (by kernel_rfl) (yi rfl fun z hz => gives_loadRow rfl rfl (BQ.out.below hz lbq) Try.underlying24 (by kernel_rfl) (by kernel_rfl)) hS3 ?_
        go_frame
        refine wpAnyH_tk 6 (v := .map (some bt)) rfl (by kernel_rfl) (by kernel_rfl) (by kernel_rfl) (yi rfl fun z hz => gives_move (.inl rfl) rfl) hS3 ?_
        go_frame
        refine wpAnyH_tk 8 (v := .int .i64 k) rfl (by kernel_rfl) (by kernel_rfl) (by kernel_rfl) (yi rfl fun z hz => gives_move (.inl rfl) rfl) hS3 ?_
        go_frame
        refine wpAnyH_tk 9 (v := .int .i64 (-3 * k)) rfl (by kernel_rfl) (by kernel_rfl) (by kernel_rfl) (yi rfl fun z hz => gives_mul rfl rfl rfl w3k) hS3 ?_
        go_frame
        refine wpAnyH_tk 10 (v := .int .i64 k) rfl (by kernel_rfl) (by kernel_rfl) (by kernel_rfl) (yi rfl fun z hz => gives_move (.inl rfl) rfl) hS3 ?_
        go_frame
        refine wpAnyH_tk 11 (v := .int .i64 o) rfl (by kernel_rfl) (by kernel_rfl) (by kernel_rfl) (yi rfl fun z hz => gives_bit rfl rfl rfl hand) hS3 ?_
        go_frame
        refine wpAnyH_tk 12 (v := .int .i64 (2 * o)) rfl (by kernel_rfl) (by kernel_rfl) (by kernel_rfl) (yi rfl fun z hz => gives_mul rfl rfl rfl w2o) hS3 ?_
        go_frame
        refine wpAnyH_tk 13 (v := .int .i64 (1 - 2 * o)) rfl (by kernel_rfl) (by kernel_rfl) (by kernel_rfl) (yi rfl fun z hz => gives_sub rfl rfl rfl w1o) hS3 ?_
        go_frame
        refine wpAnyH_1g 7 rfl (by kernel_rfl) rfl ?_
        refine js_makeMap rfl ⟨hS3.alloc hS3.size _, ?_⟩
        go_frame
        refine wpAnyH_1g 14 rfl (by kernel_rfl) rfl ?_
        refine js_insert rfl ut rfl (MapI.made w3) (by simp) rfl rfl hwf ?_
        intro w5 hm5 hg5 hs5
        have hb5' : Below w3.heap.size w3 w5 := ((Below.refl _ _).alloc (Nat.le_refl _) (.map #[] 0)).grown hg5 (by simp) (fun q hq => by injection hq with hq; omega)
        have hS5 : Below w10.heap.size w10.drew w5 := hS3.trans (hb5'.mono hS3.size)
        have hp5 : putT [] (-3 * k) (1 - 2 * o) = [(-3 * k, 1 - 2 * o)] := by simp [putT]
        have ht5 : TV w5 w3.heap.size (LP.term (-3 * k) (1 - 2 * o)) 21 := ⟨_, hm5, by rw [hp5]; rfl, fun p hp => by rw [hp5] at hp; simp at hp; subst hp; show (-3 * k).natAbs ≤ 21; omega⟩
        have hc5 : CB (LP.term (-3 * k) (1 - 2 * o)) 1 := CB.n1 ((LP.N1.term (-3 * k) (1 - 2 * o)).mono (Nat.le_refl _) (by omega))
        obtain ⟨bm, hbm⟩ : ∃ z, w3.heap.size = z := ⟨_, rfl⟩
        rw [hbm] at ht5 ⊢
        clear hm5 hg5 hs5 hp5 hbm hb5'
        refine ⟨hS5, ?_⟩
        go_frame
        refine wpAnyH_tk 15 (v := .map (some bm)) rfl (by kernel_rfl) (by kernel_rfl) (by kernel_rfl) (yi rfl fun z hz => gives_move (.inl rfl) rfl) hS5 ?_
        go_frame
        refine wpAnyH_1g 16 rfl (by kernel_rfl) rfl ?_
        refine wp_call [.map (some bt), .map (some bm)] rfl rfl jsMul rfl ((tv_mul (HT.out.below hS5) ht5 hcb hc5 (by omega) (by omega)).mono ?_)
        rintro e w6 ⟨b6, rfl, hb6, ht6, hbw⟩
        have hS6 : Below w10.heap.size w10.drew w6 := hS5.trans (hbw.mono hS5.size)
        rw [← hjd] at ht6
        refine ⟨_, rfl, hS6, ?_⟩
        go_frame
        refine wpAnyH_1g 17 rfl (by kernel_rfl) rfl ?_
        refine wp_call [.map (some b6)] rfl rfl jsPoly rfl ((tv_poly ht6 (by omega)).mono ?_)
        rintro e w7 ⟨B7, m7, d7, rfl, hs, hn, hb⟩
        have hS7 : Below w10.heap.size w10.drew w7 := hS6.trans (hb.mono hS6.size)
        have hss := HSm2.out w7 B7 m7 d7 (SQ.out.below hS7) hs
        rw [HLQ.out]
        refine ⟨_, rfl, hS7, ?_⟩
        go_frame
        refine wpAnyH_1g 18 rfl (by kernel_rfl) rfl ?_
        refine wp_call [PV lq Q qn qc, PV lq B7 m7 d7] rfl rfl jsSame rfl (hss.mono ?_)
        rintro e w11 ⟨rfl, hb11⟩
        have hS11 : Below w10.heap.size w10.drew w11 := hS7.trans (hb11.mono hS7.size)
        refine ⟨_, rfl, hS11, ?_⟩
        go_frame
        refine wpAnyH_tk 19 (v := .bool true) rfl (by kernel_rfl) (by kernel_rfl) (by kernel_rfl) (yi rfl fun z hz => gives_pick rfl rfl rfl) hS11 ?_
        go_frame
        refine wpAnyH_tk 20 (v := .bool true) rfl (by kernel_rfl) (by kernel_rfl) (by kernel_rfl) (yi rfl fun z hz => gives_move (.inr rfl) rfl) hS11 ?_
        go_frame
        refine wpAnyH_done (by kernel_rfl) (noPanic_mk ?_) _
        have HW11 := hide (HW.out.trans ((((Below.refl _ _).drew : Below w10.heap.size w10 w10.drew).trans hS11).mono HW.out.size))
        clear hss hb11 hs hn hb hbw ht6 hb6 hc5 ht5 hcb hand hs1 hjd w3k w2o w1o hwf hk ho hpt
        go_wp2_with fail
        go_ret
        exact ⟨rfl, HW11.out⟩
    · have hje0 : (je == 0) = false := by simpa using h0
      have hjn0 : (je != 0) = true := by simpa using h0
      have hjj : (je != je) = false := by simp
      have HB0 := hide (joB_none (m := m) (xs := xs) (by rw [HJE.out]; exact h0))
      have HP0 := hide (joP_none (m := m) (xs := xs) (by rw [HJE.out]; exact h0))
      go_upto_region 9 with fail
      go_wp2_with fail
      refine (HF.out.bracket m A n c xs _ HA.out HWM.out).mono ?_
      rintro e w5 ⟨P, pn, pc, rfl, hs, hn, hb⟩
      dsimp only at hs ⊢
      rw [HB0.out, HJE.out]
      rw [HB0.out] at hs
      replace HA := hide (HA.out.below hb)
      replace HW := hide (HW.out.trans (hb.mono HW.out.size))
      have SP := hide hs
      clear hs hn hb
      dsimp only at SP
      go_upto_region 10 with fail
      have hb : Below w5.heap.size w5 (w5.alloc (.cells #[.int .i64 0, .slice P pn pc] 24)) := (Below.refl _ _).alloc (Nat.le_refl _) _
      have BP := hide (Blk.new w5 24 #[.int .i64 0, .slice P pn pc])
      replace HA := hide (HA.out.below hb)
      replace HW := hide (HW.out.trans (hb.mono HW.out.size))
      replace SP := hide (SP.out.below hb)
      obtain ⟨bp, hq⟩ : ∃ q, w5.heap.size = q := ⟨_, rfl⟩
      obtain ⟨w6, hw⟩ : ∃ x, w5.alloc (.cells #[.int .i64 0, .slice P pn pc] 24) = x := ⟨_, rfl⟩
      rw [hw] at BP HW HA SP ⊢
      rw [hq] at BP ⊢
      clear hb hq hw
      go_wp2_with fail
      refine (HF.out.poly m A n c xs _ HA.out HWM.out).mono ?_
      rintro e w7 ⟨Q, qn, qc, rfl, hs, hn, hb⟩
      dsimp only at hs ⊢
      rw [HP0.out, HJE.out]
      rw [HP0.out] at hs
      replace HA := hide (HA.out.below hb)
      replace HW := hide (HW.out.trans (hb.mono HW.out.size))
      replace SP := hide (SP.out.below hb)
      replace BP := hide (BP.out.below hb BP.out.lt)
      have SQ := hide hs
      clear hs hn hb
      go_upto_region 11 with fail
      have hb : Below w7.heap.size w7 (w7.alloc (.cells #[.int .i64 0, .slice Q qn qc] 24)) := (Below.refl _ _).alloc (Nat.le_refl _) _
      have BQ := hide (Blk.new w7 24 #[.int .i64 0, .slice Q qn qc])
      replace HW := hide (HW.out.trans (hb.mono HW.out.size))
      replace SP := hide (SP.out.below hb)
      replace SQ := hide (SQ.out.below hb)
      replace BP := hide (BP.out.below hb BP.out.lt)
      obtain ⟨bq, hq⟩ : ∃ q, w7.heap.size = q := ⟨_, rfl⟩
      obtain ⟨w8, hw⟩ : ∃ x, w7.alloc (.cells #[.int .i64 0, .slice Q qn qc] 24) = x := ⟨_, rfl⟩
      rw [hw] at BP BQ HW SP SQ ⊢
      rw [hq] at BQ ⊢
      clear hb hq hw HA
      have hp0 := BP.out.cell 0
      have hp1 := BP.out.cell 1
      simp at hp0 hp1
      go_wp2_with fail
      refine (same_r 0 P pn pc [] 0 none 0 0 [] _ SP.out (SL.nil_ _)).mono ?_
      rintro e w9 ⟨rfl, hb⟩
      rw [show (decide ((0 : Int) = 0) && eqB [] []) = true by rw [eqB_true rfl]; rfl]
      replace HW := hide (HW.out.trans (hb.mono HW.out.size))
      replace SQ := hide (SQ.out.below hb)
      replace BQ := hide (BQ.out.below hb BQ.out.lt)
      clear hb hp0 hp1 BP SP
      have hp0 := BQ.out.cell 0
      have hp1 := BQ.out.cell 1
      simp at hp0 hp1
      go_wp2_with fail
      refine (same_r 0 Q qn qc [] 0 none 0 0 [] _ SQ.out (SL.nil_ _)).mono ?_
      rintro e w10 ⟨rfl, hb⟩
      rw [show (decide ((0 : Int) = 0) && eqB [] []) = true by rw [eqB_true rfl]; rfl]
      replace HW := hide (HW.out.trans (hb.mono HW.out.size))
      clear hb hp0 hp1 BQ SQ
      go_wp2_with fail
      go_ret
      exact ⟨rfl, HW.out⟩
end Go.Proofs.Ytmeicmhojingfaa
