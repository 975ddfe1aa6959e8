/- timblaw1.PolySingles, for a package laurent that answers as it should. -/
import Derived.Test.YtbajelbfgekilaaLawPDiv
import Derived.Test.YtbajelbfgekilaaTs2
import Derived.Test.YtbajelbfgekilaaTno
import Derived.Test.YtbajelbfgekilaaLpV
namespace Go.Proofs.Ytbajelbfgekilaa
set_option linter.unusedVariables false
set_option linter.unusedSimpArgs false
open Go.RowKit Go.Maps

theorem LP.lin_mk (φ : Int → Int) (o : List Tm) : lin φ (mk o) = linT φ o := rfl
theorem linT_snoc (φ : Int → Int) (o : List Tm) (x c : Int) : linT φ (o ++ [(x, c)]) = linT φ o + c * φ x := by
  have h := LP.lin_add φ (LP.mk o) (LP.term x c)
  rw [LP.lin_term] at h
  exact h
theorem linT_perm (φ : Int → Int) {a b : List Tm} (h : a.Perm b) : linT φ a = linT φ b := by
  rw [← LP.lin_mk, ← LP.lin_mk, mk_perm h]
theorem linT_le {neg : Bool} {V : Nat} : ∀ {o : List Tm}, (∀ p ∈ o, p.2.natAbs ≤ V) → (linT (LP.pw neg) o).natAbs ≤ o.length * V
  | [], _ => by simp [linT, sumT]
  | (x, c) :: o, h => by
    have e : linT (LP.pw neg) ((x, c) :: o) = c * LP.pw neg x + linT (LP.pw neg) o := rfl
    rw [e, List.length_cons, Nat.add_one_mul]
    have h1 := linT_le (neg := neg) (o := o) fun p hp => h p (List.mem_cons_of_mem _ hp)
    have h2 := h (x, c) (by simp)
    have h3 : (c * LP.pw neg x).natAbs ≤ V := by
      rw [Int.natAbs_mul]
      rcases LP.pw_cases neg x with e | e <;> rw [e] <;> simpa using h2
    omega
theorem conj_snoc (o : List Tm) (x c : Int) : LP.conj (LP.mk (o ++ [(x, c)])) = LP.conj (LP.mk o) + LP.term (-x) c := LP.ext fun k => by
  rw [LP.mk_snoc, LP.co_conj, LP.co_add, LP.co_add, LP.co_conj, LP.co_term, LP.co_term]
  by_cases h : x = -k
  · rw [if_pos h, if_pos (by omega)]
  · rw [if_neg h, if_neg (by omega)]

theorem eSameR : ∀ args w, (callFunc 15 args).run Try.prog w = .ok (.enter 15 args) w := enters (fn := Try.f15) (by kernel_rfl) (by kernel_rfl) (by kernel_rfl)
theorem eNormalR : ∀ args w, (callFunc 19 args).run Try.prog w = .ok (.enter 19 args) w := enters (fn := Try.f19) (by kernel_rfl) (by kernel_rfl) (by kernel_rfl)
theorem gives_neqE {o : Oper} {a : Act} {w : World} {x y : Operand} {ty : TypeId} {m k : Int} {b : Bool} (ho : o.op = .binOp .neq 25 x y ty) (hx : a.eval x = .int .i64 m) (hy : a.eval y = .int .i64 k) (hz : (m != k) = b) : Gives Try.prog o a w (.bool b) := by
  subst hz
  unfold Gives execOp
  rw [ho]
  simp [hx, hy, eqGuard, binOp, Op.intCmp, Sem.run_bind, Result.andThen, bne]
theorem gives_not {P : Program} {o : Oper} {a : Act} {w : World} {x : Operand} {t : TypeId} {b c : Bool} (ho : o.op = .unOp .not t x) (hx : a.eval x = .bool b) (hc : (!b) = c) : Gives P o a w (.bool c) := by
  subst hc
  unfold Gives execOp
  rw [ho]
  simp [hx, Op.unary, Sem.run_bind, Result.andThen]

set_option maxRecDepth 100000 in
set_option maxHeartbeats 16000000 in
theorem polySingles_any (F : PolyC) (la : Int) (A : Option Addr) (n c : Nat) (xs : List Int) (x : Int) (w : World) (ha : SL w A n c xs) (wa : (Lit.int .i64 la).wf = true) (wx : (Lit.int .i64 x).wf = true) :
    Calls Try.prog 3 #[PV la A n c, .int .i64 x] w fun e w' => e = .returned (.bool true) ∧ Below w.heap.size w w' := by
  have hxl := ha.il.len
  have hbw : Below w.heap.size w (w.alloc (.cells #[.int .i64 la, .slice A n c] 24)) := (Below.refl _ _).alloc (Nat.le_refl _) _
  have hA := Blk.new w 24 #[.int .i64 la, .slice A n c]
  have HA := hide (ha.below hbw)
  have HW := hide hbw
  have BA := hide hA
  have HF := hide F
  have HWA := hide wa
  have HWX := hide wx
  clear F ha hbw hA wa wx
  obtain ⟨ev, hev⟩ : ∃ v, LP.evalV la xs x = v := ⟨_, rfl⟩
  obtain ⟨ee, hee⟩ : ∃ v, LP.evalE la xs x = v := ⟨_, rfl⟩
  obtain ⟨r, hr⟩ : ∃ v, LP.conjR la xs = v := ⟨_, rfl⟩
  obtain ⟨q, hq⟩ : ∃ v, LP.normR la xs = v := ⟨_, rfl⟩
  obtain ⟨f, hf⟩ : ∃ v, LP.pfl la xs = v := ⟨_, rfl⟩
  have HEV := hide hev
  have HEE := hide hee
  have HR := hide hr
  have HQ := hide hq
  have HFF := hide hf
  have hq1f : q.1 = f := by
    rw [← hq, ← hf]
    unfold LP.normR LP.one1
    by_cases h : LP.pfl la xs = 0
    · rw [if_pos h, h]
    · rw [if_neg h]
  clear hev hee hr hq hf
  go_enter Try.func3, Try.ntmps3
  go_upto_region 1 with fail
  obtain ⟨w0, hw0⟩ : ∃ x, w.alloc (.cells #[.int .i64 la, .slice A n c] 24) = x := ⟨_, rfl⟩
  rw [hw0] at HA HW BA ⊢
  clear hw0
  have hq0 := BA.out.cell 0
  have hq1 := BA.out.cell 1
  simp at hq0 hq1
  go_wp2_with fail
  refine (HF.out.eval la A n c xs x _ HA.out HWA.out HWX.out).mono ?_
  rintro e w1 ⟨rfl, hb⟩
  rw [HEV.out, HEE.out]
  replace HA := hide (HA.out.below hb)
  replace HW := hide (HW.out.trans (hb.mono HW.out.size))
  replace BA := hide (BA.out.below hb BA.out.lt)
  clear hb hq0 hq1
  have hq0 := BA.out.cell 0
  have hq1 := BA.out.cell 1
  simp at hq0 hq1
  go_wp2_with fail
  have HC := hide (HF.out.conj la A n c xs _ HA.out HWA.out)
  rw [HR.out] at HC
  refine HC.out.mono ?_
  rintro e w2 ⟨R, rn, rc, rfl, hs, _, hb⟩
  replace HA := hide (HA.out.below hb)
  replace HW := hide (HW.out.trans (hb.mono HW.out.size))
  replace BA := hide (BA.out.below hb BA.out.lt)
  have SR := hide hs
  clear hb hs hq0 hq1 HC
  go_upto_region 3 with fail
  have HB7 : Hid (Below w2.heap.size w2 (w2.alloc (.cells #[.int .i64 r.2.1, .slice R rn rc] 24))) := hide ((Below.refl _ _).alloc (Nat.le_refl _) _)
  have B7 := hide (Blk.new w2 24 #[.int .i64 r.2.1, .slice R rn rc])
  obtain ⟨b7, hb7⟩ : ∃ b, w2.heap.size = b := ⟨_, rfl⟩
  obtain ⟨w3, hw3⟩ : ∃ x, w2.alloc (.cells #[.int .i64 r.2.1, .slice R rn rc] 24) = x := ⟨_, rfl⟩
  rw [hw3] at HB7 B7 ⊢
  replace HA := hide (HA.out.below HB7.out)
  replace SR := hide (SR.out.below HB7.out)
  replace HW := hide (HW.out.trans (HB7.out.mono HW.out.size))
  replace BA := hide (BA.out.below HB7.out BA.out.lt)
  rw [hb7] at B7 ⊢
  clear hb7 hw3 HB7
  have hq0 := BA.out.cell 0
  have hq1 := BA.out.cell 1
  simp at hq0 hq1
  go_wp2_with fail
  have HC := hide (HF.out.norm la A n c xs _ HA.out HWA.out)
  rw [HQ.out] at HC
  refine HC.out.mono ?_
  rintro e w4 ⟨N, nn, nc, rfl, hs, _, hb⟩
  replace HA := hide (HA.out.below hb)
  replace SR := hide (SR.out.below hb)
  replace HW := hide (HW.out.trans (hb.mono HW.out.size))
  replace BA := hide (BA.out.below hb BA.out.lt)
  replace B7 := hide (B7.out.below hb B7.out.lt)
  have SN := hide hs
  clear hb hs hq0 hq1 HC
  go_upto_region 4 with fail
  have HB9 : Hid (Below w4.heap.size w4 (w4.alloc (.cells #[.int .i64 q.2.1, .slice N nn nc] 24))) := hide ((Below.refl _ _).alloc (Nat.le_refl _) _)
  have B9 := hide (Blk.new w4 24 #[.int .i64 q.2.1, .slice N nn nc])
  obtain ⟨b9, hb9⟩ : ∃ b, w4.heap.size = b := ⟨_, rfl⟩
  obtain ⟨w5, hw5⟩ : ∃ x, w4.alloc (.cells #[.int .i64 q.2.1, .slice N nn nc] 24) = x := ⟨_, rfl⟩
  rw [hw5] at HB9 B9 ⊢
  replace HA := hide (HA.out.below HB9.out)
  replace SR := hide (SR.out.below HB9.out)
  replace SN := hide (SN.out.below HB9.out)
  replace HW := hide (HW.out.trans (HB9.out.mono HW.out.size))
  replace BA := hide (BA.out.below HB9.out BA.out.lt)
  replace B7 := hide (B7.out.below HB9.out B7.out.lt)
  rw [hb9] at B9 ⊢
  clear hb9 hw5 HB9
  have hq0 := BA.out.cell 0
  have hq1 := BA.out.cell 1
  simp at hq0 hq1
  go_wp2_with fail
  refine (pfault_any la A n c xs _ HA.out).mono ?_
  rintro e w6 ⟨rfl, hb⟩
  rw [HFF.out]
  replace HA := hide (HA.out.below hb)
  replace SR := hide (SR.out.below hb)
  replace SN := hide (SN.out.below hb)
  replace HW := hide (HW.out.trans (hb.mono HW.out.size))
  replace BA := hide (BA.out.below hb BA.out.lt)
  replace B7 := hide (B7.out.below hb B7.out.lt)
  replace B9 := hide (B9.out.below hb B9.out.lt)
  clear hb hq0 hq1
  go_wp2_with fail
  refine (multiplied_r HF.out _).mono ?_
  rintro e w7 ⟨rfl, hb⟩
  replace HA := hide (HA.out.below hb)
  replace SR := hide (SR.out.below hb)
  replace SN := hide (SN.out.below hb)
  replace HW := hide (HW.out.trans (hb.mono HW.out.size))
  replace BA := hide (BA.out.below hb BA.out.lt)
  replace B7 := hide (B7.out.below hb B7.out.lt)
  replace B9 := hide (B9.out.below hb B9.out.lt)
  clear hb
  have hq0 := BA.out.cell 0
  have hq1 := BA.out.cell 1
  simp at hq0 hq1
  go_wp2_with fail
  refine (HF.out.check la A n c xs _ HA.out HWA.out).mono ?_
  rintro e w8 ⟨rfl, hb⟩
  rw [HFF.out]
  replace HA := hide (HA.out.below hb)
  replace SR := hide (SR.out.below hb)
  replace SN := hide (SN.out.below hb)
  replace HW := hide (HW.out.trans (hb.mono HW.out.size))
  replace BA := hide (BA.out.below hb BA.out.lt)
  replace B7 := hide (B7.out.below hb B7.out.lt)
  replace B9 := hide (B9.out.below hb B9.out.lt)
  clear hb hq0 hq1

  have hff : (f != f) = false := by simp
  by_cases hf0 : f = 0
  case neg =>
    have HE1 : Hid (ee = f) := hide (by rw [← HEE.out]; unfold LP.evalE; rw [HFF.out, if_neg hf0])
    have HV1 : Hid (ev = 0) := hide (by rw [← HEV.out]; unfold LP.evalV; rw [HEE.out, HE1.out, if_neg hf0])
    have HR1 : Hid (r = (f, 0, [])) := hide (by rw [← HR.out]; unfold LP.conjR LP.one1; rw [HFF.out, if_neg hf0])
    have HQ1 : Hid (q = (f, 0, [])) := hide (by rw [← HQ.out]; unfold LP.normR LP.one1; rw [HFF.out, if_neg hf0])
    have hne : (f != 0) = true := by simpa using hf0
    have e1 := HE1.out
    have e2 := HV1.out
    have e3 := HR1.out
    have e4 := HQ1.out
    clear HEV HEE HR HQ HFF HE1 HV1 HR1 HQ1 hf0
    subst e1 e2 e3 e4
    have hr0 := B7.out.cell 0
    have hr1 := B7.out.cell 1
    simp at hr0 hr1
    go_wp2_with fail
    refine (same_y 0 [] _ R rn rc none 0 0 SR.out (SL.nil_ _)).mono ?_
    rintro e w9 ⟨rfl, hb⟩
    replace SN := hide (SN.out.below hb)
    replace HW := hide (HW.out.trans (hb.mono HW.out.size))
    replace B9 := hide (B9.out.below hb B9.out.lt)
    clear hb hr0 hr1
    have hr0 := B9.out.cell 0
    have hr1 := B9.out.cell 1
    simp at hr0 hr1
    go_wp2_with fail
    refine (same_y 0 [] _ N nn nc none 0 0 SN.out (SL.nil_ _)).mono ?_
    rintro e w10 ⟨rfl, hb⟩
    replace HW := hide (HW.out.trans (hb.mono HW.out.size))
    clear hb
    go_wp2_with fail
    go_ret
    exact ⟨rfl, HW.out⟩
  subst hf0
  obtain ⟨pa1, pa2, pa3, _, pa5⟩ := LP.pfl_zero HFF.out
  rw [hxl] at pa1
  have HRF : Hid (LP.fitL (LP.canon (LP.conj (LP.of la xs))).1 (LP.canon (LP.conj (LP.of la xs))).2 = r) := hide (by rw [← HR.out]; unfold LP.conjR LP.one1; rw [if_pos HFF.out]; rfl)
  have HQF : Hid (q = (0, 0, LP.normC xs)) := hide (by rw [← HQ.out]; unfold LP.normR LP.one1; rw [if_pos HFF.out])
  have HQ0 : Hid (q.2.1 = 0) := hide (by rw [HQF.out])
  have HCX : Hid (LP.canon (LP.of la xs) = (la, xs)) := hide (LP.canon_of (LP.pfl_zero HFF.out).2.2.2.1)
  have HXV : Hid (∀ k, (LP.co (LP.of la xs) k).natAbs ≤ 100000000) := hide (fun k => LP.co_of_le pa5 k)
  have HPA5 := hide pa5
  clear HR HQ pa5
  go_upto_region 9 with fail
  have hmm := @run_makeMap Try.prog
  have hbm : Below w8.heap.size w8 (w8.alloc (.map #[] 0)) := (Below.refl _ _).alloc (Nat.le_refl _) _
  have hM := MapI.made w8
  have HS := hide (split_w la A n c xs _ (HA.out.below hbm) ⟨pa2, pa3⟩ pa1)
  have hq0 := (BA.out.alloc (.map #[] 0)).cell 0
  have hq1 := (BA.out.alloc (.map #[] 0)).cell 1
  simp at hq0 hq1
  obtain ⟨b0, hb0⟩ : ∃ b, w8.heap.size = b := ⟨_, rfl⟩
  have HM0 := hide hM
  have HBM := hide hbm
  clear hM hbm
  go_wp2_with fail
  refine HS.out.mono ?_
  rintro e w9 ⟨bs, T, rfl, hge, hms, hT, hTk, hb⟩
  have hgbs : b0 < bs := by simp at hge; omega
  have HMM := hide (HM0.out.below hb)
  have HB9 := hide (HBM.out.trans (hb.mono HBM.out.size))
  have HMS := hide hms
  have HT := hide hT
  have HTL := hide (nodup_leW hms.nodup hTk)
  have HTK : Hid (∀ p ∈ T, p.1.natAbs ≤ 1200) := hide (fun p hp => by have := hTk p hp; omega)
  have HTC := hide (hms.val_le (V := 100000000) (fun k => by rw [hT]; exact HXV.out k))
  rw [hb0] at HMM
  clear hge hms hT hTk hb HM0 HBM HS hq0 hq1
  obtain ⟨neg, hneg⟩ : ∃ neg : Bool, decide (x < 0) = neg := ⟨_, rfl⟩
  have HNEG := hide hneg
  have lbs := HMS.out.lt
  go_wp2_with (refine wpList_rangeI _ rfl _ _ rfl ut bs T rfl HMS.out (fun p hp => wfI (by have := HTK.out p hp; omega)) ?_; intro w1 cnt hrg hg1 hs1)
  obtain ⟨rr, hrr⟩ : ∃ r, w9.heap.size = r := ⟨_, rfl⟩
  rw [hrr] at hrg lbs ⊢
  have HM1 := hide (HMM.out.kept hg1 (by simp))
  have HMS1 := hide (HMS.out.kept hg1 (by simp))
  have HW1 := hide (HB9.out.grown hg1 HB9.out.size (by simp))
  have HRG := hide hrg
  clear hrg hg1 hs1 HMM HMS HB9 hrr hneg
  go_frame
  go_loopw [14] (fun v14 wr => ∃ (sum : Int) (o done rem : List Tm) (cnt : Nat), v14 = .int .i64 sum ∧ RangeI wr bs rr T done rem cnt ∧ MapI wr b0 o ∧ MapI wr bs T ∧ LP.mk o = LP.conj (LP.mk done) ∧ (∀ p ∈ o, p.1.natAbs ≤ 1200) ∧ linT (LP.pw neg) done = sum ∧ Below w8.heap.size w8 wr) (fun _ wr => wr.rangeLeft bs rr)
  case atStart => exact ⟨0, [], [], T, cnt, rfl, HRG.out, HM1.out, HMS1.out, rfl, by simp, rfl, HW1.out⟩
  case round =>
    clear HRG HM1 HMS1 HW1
    obtain ⟨sum, o, done, rem, cnt, rfl, hrg, hmo, hms, ho, hke, hsum, hbw⟩ := hrel
    have HMO := hide hmo
    have HMS := hide hms
    have HO := hide ho
    have HKE := hide hke
    have HBW := hide hbw
    have HRG := hide hrg
    have HSUM := hide hsum
    have hor := hrg.left_eq
    have HOR := hide hor
    have hdl : done.length ≤ 200 := by
      have h := hrg.perm.length_eq
      rw [List.length_append] at h
      have := HTL.out
      omega
    have hsl : sum.natAbs ≤ 20000000000 := by
      rw [← hsum]
      exact Nat.le_trans (linT_le fun p hp => HTC.out p (hrg.mem p hp)) (by have := Nat.mul_le_mul_right 100000000 hdl; omega)
    clear hmo hms ho hke hbw hrg hor hsum hdl
    go_wp2_with (refine wpList_nextI _ rfl _ rfl bs rr T done rem cnt rfl HRG.out ?_ ?_)
    · intro hrem
      subst hrem
      have HO2 : Hid (LP.mk o = LP.conj (LP.of la xs)) := hide (by rw [HO.out, mk_perm HRG.out.all, HT.out])
      have HEVS : Hid (LP.ev neg (LP.of la xs) = sum) := hide (by rw [← HT.out, ← HSUM.out]; exact (linT_perm _ HRG.out.all).symm)
      clear HRG HOR HO HSUM
      replace SR := hide (SR.out.below HBW.out)
      replace SN := hide (SN.out.below HBW.out)
      replace HW := hide (HW.out.trans (HBW.out.mono HW.out.size))
      replace B7 := hide (B7.out.below HBW.out B7.out.lt)
      replace B9 := hide (B9.out.below HBW.out B9.out.lt)
      clear HBW HA BA
      go_wp2_with fail
      refine (tpoly_any b0 o 1200 (by omega) _ HMO.out HKE.out).mono ?_
      rintro e v5 ⟨P, pn, pc, rfl, hs, hnw, hb⟩
      rw [HO2.out] at hs ⊢
      have HP := hide hs
      have MS := hide (HMS.out.below hb)
      replace SR := hide (SR.out.below hb)
      replace SN := hide (SN.out.below hb)
      replace HW := hide (HW.out.trans (hb.mono HW.out.size))
      replace B7 := hide (B7.out.below hb B7.out.lt)
      replace B9 := hide (B9.out.below hb B9.out.lt)
      clear hb hs hnw HMO HMS HKE HO2
      generalize LP.canon (LP.conj (LP.of la xs)) = CC at *
      go_wp2_with fail
      refine (fits_any CC.1 P pn pc CC.2 _ HP.out).mono ?_
      rintro e v6 ⟨Z, zn, zc, rfl, hs, hsm, hb⟩
      rw [HRF.out] at hs ⊢
      have SZ := hide hs
      replace MS := hide (MS.out.below hb)
      replace SR := hide (SR.out.below hb)
      replace SN := hide (SN.out.below hb)
      replace HW := hide (HW.out.trans (hb.mono HW.out.size))
      replace B7 := hide (B7.out.below hb B7.out.lt)
      replace B9 := hide (B9.out.below hb B9.out.lt)
      clear hb hs hsm HP HRF
      go_upto_region 19 with fail
      have HB17 : Hid (Below v6.heap.size v6 (v6.alloc (.cells #[.int .i64 r.2.1, .slice Z zn zc] 24))) := hide ((Below.refl _ _).alloc (Nat.le_refl _) _)
      have B17 := hide (Blk.new v6 24 #[.int .i64 r.2.1, .slice Z zn zc])
      obtain ⟨b17, hb17⟩ : ∃ b, v6.heap.size = b := ⟨_, rfl⟩
      obtain ⟨wv, hwv⟩ : ∃ x, v6.alloc (.cells #[.int .i64 r.2.1, .slice Z zn zc] 24) = x := ⟨_, rfl⟩
      rw [hwv] at HB17 B17 ⊢
      replace MS := hide (MS.out.below HB17.out)
      replace SR := hide (SR.out.below HB17.out)
      replace SN := hide (SN.out.below HB17.out)
      replace SZ := hide (SZ.out.below HB17.out)
      replace HW := hide (HW.out.trans (HB17.out.mono HW.out.size))
      replace B7 := hide (B7.out.below HB17.out B7.out.lt)
      replace B9 := hide (B9.out.below HB17.out B9.out.lt)
      rw [hb17] at B17 ⊢
      clear hb17 hwv HB17
      have HTV : Hid (∀ c ∈ (LP.canon (LP.mk T)).2, c.natAbs ≤ 4000000000000000000) := hide (fun c hc => by
        rw [HT.out, HCX.out] at hc
        exact Nat.le_trans (HPA5.out c hc) (by decide))
      have HTN : Hid (LP.normC (LP.canon (LP.mk T)).2 = q.2.2) := hide (by rw [HT.out, HCX.out, HQF.out])
      refine wp_region_noPanic ?_
      refine wp_region_held_drew (S := fun x => Below wv.heap.size wv x) (by kernel_rfl) (Below.refl _ _).drew (fun hS0 => ?_)
      refine wpAnyH_tk 0 (v := .int .i64 r.1) rfl (by kernel_rfl) (by kernel_rfl) (by kernel_rfl) (yi rfl fun w' hw' => gives_move (.inl rfl) rfl) hS0 ?_
      go_frame
      refine wpAnyH_tk 1 (v := .int .i64 r.1) rfl (by kernel_rfl) (by kernel_rfl) (by kernel_rfl) (yi rfl fun w' hw' => gives_move (.inl rfl) rfl) hS0 ?_
      go_frame
      refine wpAnyH_tk 2 (v := .bool false) rfl (by kernel_rfl) (by kernel_rfl) (by kernel_rfl) (yi rfl fun w' hw' => gives_neqE rfl rfl rfl (by simp)) hS0 ?_
      go_frame
      refine wpAnyH_tk 3 (v := .bool false) rfl (by kernel_rfl) (by kernel_rfl) (by kernel_rfl) (yi rfl fun w' hw' => gives_move (.inl rfl) rfl) hS0 ?_
      go_frame
      refine wpAnyH_tk 4 (v := PV r.2.1 R rn rc) rfl (by kernel_rfl) (by kernel_rfl) (by kernel_rfl) (yi rfl fun w' hw' => gives_loadRow rfl rfl (B7.out.below hw' B7.out.lt) Try.underlying24 (by kernel_rfl) (by kernel_rfl)) hS0 ?_
      go_frame
      refine wpAnyH_tk 5 (v := PV r.2.1 Z zn zc) rfl (by kernel_rfl) (by kernel_rfl) (by kernel_rfl) (yi rfl fun w' hw' => gives_loadRow rfl rfl (B17.out.below hw' B17.out.lt) Try.underlying24 (by kernel_rfl) (by kernel_rfl)) hS0 ?_
      go_frame
      refine wpAnyH_1g 6 rfl (by kernel_rfl) (by kernel_rfl) ?_
      refine wp_call [PV r.2.1 R rn rc, PV r.2.1 Z zn zc] rfl rfl eSameR rfl ((same_y r.2.1 r.2.2 _ R rn rc Z zn zc (SR.out.below hS0) (SZ.out.below hS0)).mono ?_)
      rintro e v1 ⟨rfl, hb⟩
      have hS1 : Below wv.heap.size wv v1 := hS0.trans (hb.mono hS0.size)
      refine ⟨_, rfl, hS1, ?_⟩
      clear hb
      go_frame
      refine wpAnyH_tk 7 (v := .bool false) rfl (by kernel_rfl) (by kernel_rfl) (by kernel_rfl) (yi rfl fun w' hw' => gives_not rfl rfl rfl) hS1 ?_
      go_frame
      refine wpAnyH_tk 8 (v := .bool false) rfl (by kernel_rfl) (by kernel_rfl) (by kernel_rfl) (yi rfl fun w' hw' => gives_pick rfl rfl rfl) hS1 ?_
      go_frame
      refine wpAnyH_tk 9 (v := .bool false) rfl (by kernel_rfl) (by kernel_rfl) (by kernel_rfl) (yi rfl fun w' hw' => gives_move (.inl rfl) rfl) hS1 ?_
      go_frame
      refine wpAnyH_tk 10 (v := PV q.2.1 N nn nc) rfl (by kernel_rfl) (by kernel_rfl) (by kernel_rfl) (yi rfl fun w' hw' => gives_loadRow rfl rfl (B9.out.below hw' B9.out.lt) Try.underlying24 (by kernel_rfl) (by kernel_rfl)) hS1 ?_
      go_frame
      refine wpAnyH_tk 11 (v := .map (some bs)) rfl (by kernel_rfl) (by kernel_rfl) (by kernel_rfl) (yi rfl fun w' hw' => gives_move (.inl rfl) rfl) hS1 ?_
      go_frame
      refine wpAnyH_1g 12 rfl (by kernel_rfl) (by kernel_rfl) ?_
      refine wp_call [.map (some bs)] rfl rfl eNormalR rfl ((tnormal_any bs T 1200 (by omega) _ (MS.out.below hS1) HTK.out HTV.out).mono ?_)
      rintro e v2 ⟨Y, yn, yc, rfl, hs, _, hb⟩
      rw [HTN.out] at hs
      have hS2 : Below wv.heap.size wv v2 := hS1.trans (hb.mono hS1.size)
      refine ⟨_, rfl, hS2, ?_⟩
      have SY := hide hs
      clear hb hs
      go_frame
      refine wpAnyH_1g 13 rfl (by kernel_rfl) (by kernel_rfl) ?_
      have CS := same_y q.2.1 q.2.2 _ N nn nc Y yn yc (SN.out.below hS2) SY.out
      have e0 : PV q.2.1 Y yn yc = PV 0 Y yn yc := by rw [HQ0.out]
      rw [e0] at CS
      refine wp_call [PV q.2.1 N nn nc, PV 0 Y yn yc] rfl rfl eSameR rfl (CS.mono ?_)
      clear CS e0
      rintro e v3 ⟨rfl, hb⟩
      have hS3 : Below wv.heap.size wv v3 := hS2.trans (hb.mono hS2.size)
      refine ⟨_, rfl, hS3, ?_⟩
      clear hb
      go_frame
      refine wpAnyH_tk 14 (v := .bool false) rfl (by kernel_rfl) (by kernel_rfl) (by kernel_rfl) (yi rfl fun w' hw' => gives_not rfl rfl rfl) hS3 ?_
      go_frame
      refine wpAnyH_tk 15 (v := .bool false) rfl (by kernel_rfl) (by kernel_rfl) (by kernel_rfl) (yi rfl fun w' hw' => gives_pick rfl rfl rfl) hS3 ?_
      go_frame
      refine wpAnyH_done (by kernel_rfl) (noPanic_mk ?_) _
      replace HW := hide (HW.out.trans (hS3.mono HW.out.size))
      clear hS0 hS1 hS2 hS3 SR SN SZ B7 B9 B17 MS SY
      by_cases hx1 : x = 1
      · have he : ee = 0 := by rw [← HEE.out]; unfold LP.evalE; rw [if_pos HFF.out, if_pos (.inl hx1)]
        have hv : ev = sum := by
          rw [← HEV.out, ← HEVS.out, ← HNEG.out]
          unfold LP.evalV
          rw [HEE.out, he, if_pos rfl, hx1]
          rfl
        subst hx1 he hv
        go_wp2_with fail
        go_ret
        exact ⟨rfl, HW.out⟩
      by_cases hx2 : x = -1
      · have he : ee = 0 := by rw [← HEE.out]; unfold LP.evalE; rw [if_pos HFF.out, if_pos (.inr hx2)]
        have hv : ev = sum := by
          rw [← HEV.out, ← HEVS.out, ← HNEG.out]
          unfold LP.evalV
          rw [HEE.out, he, if_pos rfl, hx2]
          rfl
        subst hx2 he hv
        go_wp2_with fail
        go_ret
        exact ⟨rfl, HW.out⟩
      · have he : ee = 1 := by rw [← HEE.out]; unfold LP.evalE; rw [if_pos HFF.out, if_neg (by omega)]
        have hv : ev = 0 := by rw [← HEV.out]; unfold LP.evalV; rw [HEE.out, he, if_neg (by decide)]
        have h1 : (x != 1) = true := by simp; omega
        have h2 : (x != -1) = true := by simp; omega
        subst he hv
        clear hx1 hx2
        go_wp2_with fail
        go_ret
        exact ⟨rfl, HW.out⟩
    · intro e c1 rem' w2 cnt' hpm hrg2 hlt hg2 hs2 hen
      have hfr := hrg2.fresh
      have hxE := HTK.out _ hfr.2
      have hcV := HTC.out _ hfr.2
      simp only at hxE hcV
      have HMO2 := hide (HMO.out.kept hg2 (by intro e; injection e with e; omega))
      have HMS2 := hide (HMS.out.kept hg2 (by intro e; injection e with e; omega))
      have HBW2 := hide (HBW.out.grown hg2 HBW.out.size (fun j hj => by injection hj with hj; omega))
      have hco : coefT o (-e) = 0 := by
        have h : LP.co (LP.mk o) (-e) = LP.co (LP.conj (LP.mk done)) (-e) := by rw [HO.out]
        rw [LP.co_conj, Int.neg_neg, LP.co_mk, LP.co_mk, hfr.1] at h
        exact h
      have HO3 : Hid (LP.mk (putT o (-e) c1) = LP.conj (LP.mk (done ++ [(e, c1)]))) := hide (by rw [conj_snoc, ← HO.out]; exact putT_mk HMO.out.nodup rfl _ _ _ (by rw [hco, Int.zero_add]))
      have HSUM3 : Hid (linT (LP.pw neg) (done ++ [(e, c1)]) = sum + c1 * LP.pw neg e) := hide (by rw [linT_snoc, HSUM.out])
      have hle : o.length < 1000000 := Nat.lt_of_le_of_lt (nodup_leT HMO.out.nodup HKE.out) (by omega)
      have HWF := hide (wfI (x := -e) (by omega))
      have hwe : wrap64 (-e) = -e := wrap64_small (by omega)
      have hwe2 : IntKind.i64.wrap (-e) = -e := by rw [IntKind.wrap_i64]; omega
      have HKE2 : Hid (∀ p ∈ putT o (-e) c1, p.1.natAbs ≤ 1200) := hide (fun p hp => by
        rcases putT_keys _ _ _ p hp with h | h
        · exact HKE.out p h
        · rw [h]; show (-e).natAbs ≤ 1200; omega)
      have HRG2 := hide hrg2
      clear hrg2 hfr hpm hg2 hs2 hco HMO HMS HBW HRG
      go_upto_region 15 with ((with_reducible show wpList _ _ _ (Oper.mk _ (.mapUpdate _ _ _ _) _ _ _ _ :: _) _ _); refine wpList_putI _ rfl _ _ _ _ rfl ut b0 o (-e) c1 rfl HMO2.out hle ?_ rfl HWF.out ?_; (first | rfl | exact congrArg (Value.int IntKind.i64) hwe | exact congrArg (Value.int IntKind.i64) hwe2); intro w9 hm9 hg9 hs9)
      have HM9 := hide hm9
      have HMS9 := hide (HMS2.out.kept hg9 (by intro e; injection e with e; omega))
      have HRG9 := hide (HRG2.out.kept hg9 (by intro e; injection e with e; omega) (by intro e; injection e with e; omega))
      have HBW9 := hide (HBW2.out.grown hg9 HBW2.out.size (fun j hj => by injection hj with hj; omega))
      clear hg9 hs9 hen hm9 hle hwe hwe2 HMO2 HMS2 HRG2 HBW2
      go_frame
      by_cases hxn : x < 0
      · have hn1 : neg = true := by rw [← HNEG.out]; exact decide_eq_true hxn
        have hd : decide (x < 0) = true := decide_eq_true hxn
        by_cases hpar : e.tmod 2 = 0
        · have hpe : (e.tmod 2 != 0) = false := by simpa using hpar
          have hp : LP.pw neg e = 1 := by
            unfold LP.pw
            rw [if_neg]
            rintro ⟨_, h⟩
            have := (Int.dvd_iff_tmod_eq_zero (a := 2) (b := e)).2 hpar
            omega
          have hw9 : wrap64 (sum + c1) = sum + c1 := wrap64_small (by omega)
          have hw8 : IntKind.i64.wrap (sum + c1) = sum + c1 := by rw [IntKind.wrap_i64]; omega
          rw [hp, Int.mul_one] at HSUM3
          clear hp hpar hxn
          go_wp2_with fail
          go_roundw
          case rel => exact ⟨_, _, _, rem', cnt', by first | rfl | rw [hw9], HRG9.out, HM9.out, HMS9.out, HO3.out, HKE2.out, HSUM3.out, HBW9.out⟩
          case measure => rw [HRG9.out.left_eq, HOR.out]; exact hlt
        · have hpe : (e.tmod 2 != 0) = true := by simpa using hpar
          have hp : LP.pw neg e = -1 := by
            unfold LP.pw
            rw [if_pos ⟨hn1, fun h => hpar ((Int.dvd_iff_tmod_eq_zero (a := 2) (b := e)).1 (by omega))⟩]
          have hw7 : IntKind.i64.wrap (-c1) = -c1 := by rw [IntKind.wrap_i64]; omega
          have hw8 : IntKind.i64.wrap (sum + -c1) = sum + -c1 := by rw [IntKind.wrap_i64]; omega
          rw [hp, show c1 * -1 = -c1 by omega] at HSUM3
          clear hp hpar hxn
          go_wp2_with fail
          go_roundw
          case rel => exact ⟨_, _, _, rem', cnt', rfl, HRG9.out, HM9.out, HMS9.out, HO3.out, HKE2.out, HSUM3.out, HBW9.out⟩
          case measure => rw [HRG9.out.left_eq, HOR.out]; exact hlt
      · have hn1 : neg = false := by rw [← HNEG.out]; exact decide_eq_false hxn
        have hd : decide (x < 0) = false := decide_eq_false hxn
        have hp : LP.pw neg e = 1 := by
          unfold LP.pw
          rw [if_neg]
          rintro ⟨h, _⟩
          rw [hn1] at h
          cases h
        have hw8 : IntKind.i64.wrap (sum + c1) = sum + c1 := by rw [IntKind.wrap_i64]; omega
        rw [hp, Int.mul_one] at HSUM3
        clear hp hxn
        go_wp2_with fail
        go_roundw
        case rel => exact ⟨_, _, _, rem', cnt', rfl, HRG9.out, HM9.out, HMS9.out, HO3.out, HKE2.out, HSUM3.out, HBW9.out⟩
        case measure => rw [HRG9.out.left_eq, HOR.out]; exact hlt
end Go.Proofs.Ytbajelbfgekilaa
