/- Several texts in one. -/
import Derived.Test.YtmeicmhojingfaaPart16
import Derived.Test.YtmeicmhojingfaaPart7
import Derived.Test.YtmeicmhojingfaaPart4
import Derived.Test.YtmeicmhojingfaaBase1
/- timbkeep1.JonesSkein, for packages jones and laurent that answer as they should. (Written by tools/gen_jskein.py.) -/
namespace Go.Proofs.Ytmeicmhojingfaa
set_option linter.unusedVariables false
set_option linter.unusedSimpArgs false
open Go.RowKit

theorem eSubL : ∀ args w, (callFunc 22 args).run Try.prog w = .ok (.enter 22 args) w := enters (fn := Try.f22) (by kernel_rfl) (by kernel_rfl) (by kernel_rfl)
/-- A^-2 - A^2. -/
noncomputable def skK : LP := LP.term (-2) 1 + -LP.term 2 1
theorem skK_canon : LP.canon skK = (-2, [1, 0, 0, 0, -1]) := by
  refine LP.canon_eq (.inr ⟨by simp, by decide, by decide⟩) ?_
  refine LP.ext fun k => ?_
  show LP.co (LP.term (-2) 1 + (LP.term (-2 + 1) 0 + (LP.term (-2 + 1 + 1) 0 + (LP.term (-2 + 1 + 1 + 1) 0 + (LP.term (-2 + 1 + 1 + 1 + 1) (-1) + 0))))) k = LP.co (LP.term (-2) 1 + -LP.term 2 1) k
  simp only [LP.co_add, LP.co_neg, LP.co_term, LP.co_zero]
  grind
/-- What the walk needs to know of the polynomials of this law. -/
structure SkF (P Q R P4 Q4 L : LP) : Prop where
  rP : LP.Rt P
  rQ : LP.Rt Q
  rR : LP.Rt R
  r4 : LP.Rt (LP.term 4 1)
  rm : LP.Rt (LP.term (-4) 1)
  rK : LP.Rt skK
  rP4 : LP.Rt P4
  rQ4 : LP.Rt Q4
  rL : LP.Rt L
  e1 : LP.term 4 1 * P = P4
  e2 : LP.term (-4) 1 * Q = Q4
  e3 : P4 + -Q4 = L
  e4 : skK * R = L
theorem skF {N i : Nat} (h1 : 1 ≤ N) (h6 : N ≤ 6) (hi : 1 ≤ i) (hiN : i < N) {x y : List Int} (hx : okB N x) (hy : okB N y) (lx : x.length ≤ 5) (ly : y.length ≤ 5) :
    ∃ P4 Q4 L, SkF (jon N (x ++ (i : Int) :: y)) (jon N (x ++ -(i : Int) :: y)) (jon N (x ++ y)) P4 Q4 L := by
  have hp : ∀ z ∈ x ++ (i : Int) :: y, z ≠ 0 ∧ z.natAbs < N := fun z hz => by
    rcases List.mem_append.1 hz with h | h
    · exact hx z h
    · rcases List.mem_cons.1 h with rfl | h
      · omega
      · exact hy z h
  have hq : ∀ z ∈ x ++ -(i : Int) :: y, z ≠ 0 ∧ z.natAbs < N := fun z hz => by
    rcases List.mem_append.1 hz with h | h
    · exact hx z h
    · rcases List.mem_cons.1 h with rfl | h
      · omega
      · exact hy z h
  have hr : ∀ z ∈ x ++ y, z ≠ 0 ∧ z.natAbs < N := fun z hz => by
    rcases List.mem_append.1 hz with h | h
    · exact hx z h
    · exact hy z h
  have nP := jon_n1 h1 h6 hp (by simp only [List.length_append, List.length_cons]; omega)
  have nQ := jon_n1 h1 h6 hq (by simp only [List.length_append, List.length_cons]; omega)
  have nR := jon_n1 h1 h6 hr (by simp only [List.length_append]; omega)
  have lP : (x ++ (i : Int) :: y).length ≤ 11 := by simp only [List.length_append, List.length_cons]; omega
  have lQ : (x ++ -(i : Int) :: y).length ≤ 11 := by simp only [List.length_append, List.length_cons]; omega
  have lR : (x ++ y).length ≤ 11 := by simp only [List.length_append]; omega
  have pw : ∀ {k : Nat}, k ≤ 11 → 32 * 3 ^ k ≤ 5668704 := fun {k} h => by
    have := Nat.pow_le_pow_right (show 0 < 3 by omega) h
    omega
  have mP := nP.mono (E' := 78) (V' := 5668704) (by omega) (pw lP)
  have mQ := nQ.mono (E' := 78) (V' := 5668704) (by omega) (pw lQ)
  have mR := nR.mono (E' := 78) (V' := 5668704) (by omega) (pw lR)
  have n4 : LP.N1 (LP.term 4 1 * jon N (x ++ (i : Int) :: y)) 82 5668704 := ((LP.N1.term 4 1).mul mP).mono (by decide) (by decide)
  have m4 : LP.N1 (LP.term (-4) 1 * jon N (x ++ -(i : Int) :: y)) 82 5668704 := ((LP.N1.term (-4) 1).mul mQ).mono (by decide) (by decide)
  have k1 : LP.N1 (LP.term (-2) 1) 2 1 := LP.N1.term (-2) 1
  have k2 : LP.N1 (-LP.term 2 1) 2 1 := (LP.N1.term 2 1).neg
  have kk : LP.N1 skK 2 2 := k1.add k2
  have hs := jon_skein h1 h6 hi (i := i) (v := y) (fun z hz => hx z hz)
  exact ⟨_, _, _, ⟨mP.rt (by decide) (by decide), mQ.rt (by decide) (by decide), mR.rt (by decide) (by decide), (LP.N1.term 4 1).rt (by decide) (by decide), (LP.N1.term (-4) 1).rt (by decide) (by decide), kk.rt (by decide) (by decide), n4.rt (by decide) (by decide), m4.rt (by decide) (by decide), (n4.add m4.neg).rt (by decide) (by decide), rfl, rfl, rfl, hs.symm⟩⟩
theorem sk_sub (F : PolyC) {x y z : LP} (hx : LP.Rt x) (hy : LP.Rt y) (hz : LP.Rt z) (e : x + -y = z) (w : World) (A : Option Addr) (n c : Nat) (B : Option Addr) (m d : Nat) (ha : SL w A n c (LP.canon x).2) (hb : SL w B m d (LP.canon y).2) :
    Calls Try.prog 22 #[PV (LP.canon x).1 A n c, PV (LP.canon y).1 B m d] w (GivesPE w (0, (LP.canon z).1, (LP.canon z).2)) := by
  subst e
  have h := F.sub (LP.canon x).1 A n c (LP.canon x).2 (LP.canon y).1 B m d (LP.canon y).2 w ha hb hx.wf hy.wf
  rw [LP.subR_canon hx hy hz] at h
  exact h
theorem mulE_c (F : PolyC) {x y z : LP} (hx : LP.Rt x) (hy : LP.Rt y) (hz : LP.Rt z) (e : x * y = z) (w : World) (A : Option Addr) (n c : Nat) (B : Option Addr) (m d : Nat) (ha : SL w A n c (LP.canon x).2) (hb : SL w B m d (LP.canon y).2) :
    Calls Try.prog 24 #[PV (LP.canon x).1 A n c, PV (LP.canon y).1 B m d] w (GivesPE w (0, (LP.canon z).1, (LP.canon z).2)) := by
  subst e
  have h := F.mul (LP.canon x).1 A n c (LP.canon x).2 (LP.canon y).1 B m d (LP.canon y).2 w ha hb hx.wf hy.wf
  rw [LP.mulR_canon hx hy hz] at h
  exact h

set_option maxRecDepth 100000 in
set_option maxHeartbeats 8000000 in
theorem jonesSkein_any (F : JonesC) (FP : PolyC) (nn : Int) (A : Option Addr) (n c : Nat) (us : List Int) (B : Option Addr) (m d : Nat) (vs : List Int) (ii : Int) (w : World) (ha : SL w A n c us) (hb : SL w B m d vs) :
    Calls Try.prog 5 #[.int .i64 nn, .slice A n c, .slice B m d, .int .i64 ii] w fun e w' => e = .returned (.bool true) ∧ Below w.heap.size w w' := by
  have HJD := hide (jonesed_any F)
  have HF := hide F
  have HFP := hide FP
  have HA := hide ha
  have HB := hide hb
  obtain ⟨i0, hi0, hz0, hz1, hz2⟩ := info_parts int_info
  have HI0 := hide hi0
  have HZ0 := hide hz0
  have HZ1 := hide hz1
  have HZ2 := hide hz2
  clear F FP ha hb hi0 hz0 hz1 hz2
  go_enter Try.func5, Try.ntmps5
  go_wp2_with fail
  refine (strands_gen nn 5 6 rfl (by omega) (by omega) w).mono ?_
  rintro e w0 ⟨T, hT1, hT5, rfl, hww⟩
  subst hww
  have hw1 : IntKind.i64.wrap (T : Int) = (T : Int) := by rw [IntKind.wrap_i64]; omega
  have hs1 : (T : Int) + 1 - 1 = (T : Int) := by omega
  go_wp2_with fail
  refine (word_any A T n c 5 us w HA.out.il HA.out.cap (by omega) (by omega) (by omega)).mono ?_
  rintro e w1 ⟨xs, X, xn, xc, rfl, ho, hx, hxn, hb⟩
  have hxl := ho.len
  have SX := hide ho.sl
  have HW := hide hb
  replace HB := hide (HB.out.below hb)
  clear ho hb
  go_wp2_with fail
  refine (word_any B T m d 5 vs _ HB.out.il HB.out.cap (by omega) (by omega) (by omega)).mono ?_
  rintro e w2 ⟨ys, Y, yn, yc, rfl, ho, hy, hyn, hb⟩
  have hyl := ho.len
  have SY := hide ho.sl
  replace SX := hide (SX.out.below hb)
  replace HW := hide (HW.out.trans (hb.mono HW.out.size))
  clear ho hb HA HB
  have hm1 := Int.emod_nonneg ii (show (T : Int) ≠ 0 by omega)
  have hm2 := Int.emod_lt_of_pos ii (show (0 : Int) < (T : Int) by omega)
  obtain ⟨p, hp⟩ : ∃ p : Nat, ii % (T : Int) = p := ⟨(ii % (T : Int)).toNat, by omega⟩
  have HMB : Hid (∀ w, Calls Try.prog 20 #[.int .i64 ii, .int .i64 (T : Int)] w fun e w' => e = .returned (.int .i64 (p : Int)) ∧ w = w') := hide (fun w => by
    have h := mbelow_any ii T w (by omega) (by omega)
    rw [hp] at h
    exact h)
  rw [hp] at hm1 hm2
  clear hp
  go_wp2_with fail
  refine (HMB.out _).mono ?_
  rintro e w3 ⟨rfl, hww⟩
  subst hww
  clear HMB
  obtain ⟨i, hi⟩ : ∃ i : Nat, (i : Int) = 1 + p := ⟨p + 1, by omega⟩
  have hi1 : 1 ≤ i := by omega
  have hiT : i ≤ T := by omega
  have hpw : IntKind.i64.wrap (1 + (p : Int)) = (i : Int) := by rw [IntKind.wrap_i64]; omega
  have hpn : IntKind.i64.wrap (-(i : Int)) = -(i : Int) := by rw [IntKind.wrap_i64]; omega
  have hok : okB (T + 1) xs := fun x hx' => by have := hx x hx'; omega
  have hoy : okB (T + 1) ys := fun x hx' => by have := hy x hx'; omega
  obtain ⟨N, hN⟩ : ∃ N, T + 1 = N := ⟨_, rfl⟩
  rw [hN] at hok hoy
  have hTi : (T : Int) + 1 = (N : Int) := by omega
  rw [hTi]
  have hN1 : 1 ≤ N := by omega
  have hN6 : N ≤ 6 := by omega
  have HWM := hide (wfI (x := (N : Int)) (by omega))
  obtain ⟨P4, Q4, L, hsk⟩ := skF hN1 hN6 hi1 (show i < N by omega) hok hoy (by omega) (by omega)
  have HSK := hide hsk
  have op : okB N (xs ++ (i : Int) :: ys) := fun z hz => by
    rcases List.mem_append.1 hz with h | h
    · exact hok z h
    · rcases List.mem_cons.1 h with rfl | h
      · omega
      · exact hoy z h
  have oq : okB N (xs ++ -(i : Int) :: ys) := fun z hz => by
    rcases List.mem_append.1 hz with h | h
    · exact hok z h
    · rcases List.mem_cons.1 h with rfl | h
      · omega
      · exact hoy z h
  have or' : okB N (xs ++ ys) := fun z hz => by
    rcases List.mem_append.1 hz with h | h
    · exact hok z h
    · exact hoy z h
  have lp : (xs ++ (i : Int) :: ys).length ≤ 12 := by simp only [List.length_append, List.length_cons]; omega
  have lq : (xs ++ -(i : Int) :: ys).length ≤ 12 := by simp only [List.length_append, List.length_cons]; omega
  have lr : (xs ++ ys).length ≤ 12 := by simp only [List.length_append]; omega
  have HE1 := hide (joE_ok hN1 hN6 op lp)
  have HE2 := hide (joE_ok hN1 hN6 oq lq)
  have HE3 := hide (joE_ok hN1 hN6 or' lr)
  have HP1 := hide (joP_ok hN1 hN6 op lp)
  have HP2 := hide (joP_ok hN1 hN6 oq lq)
  have HP3 := hide (joP_ok hN1 hN6 or' lr)
  have HLP := hide lp
  have HLQ := hide lq
  have HLR := hide lr
  obtain ⟨zi, hzi⟩ : ∃ z : Int, (i : Int) = z := ⟨_, rfl⟩
  rw [hzi] at HE1 HE2 HP1 HP2 HLP HLQ hpw hpn HSK hsk
  clear hok hoy op oq or' lp lq lr hsk hi hxl hyl hx hy hTi hzi hi1 hiT hm1 hm2 hxn hyn hN hT1 hT5 hN1 hN6
  go_wp2_with fail
  have hb : Below w2.heap.size w2 (w2.alloc (.cells #[.int .i64 zi] 3)) := (Below.refl _ _).alloc (Nat.le_refl _) _
  have HL : Hid (SL (w2.alloc (.cells #[.int .i64 zi] 3)) (some ⟨w2.heap.size, 0, none⟩) 1 1 [zi]) := hide (SL.lit w2 [zi] (by simp) (cs := #[.int .i64 zi]) rfl (m := 1) rfl)
  replace HW := hide (HW.out.trans (hb.mono HW.out.size))
  replace SX := hide (SX.out.below hb)
  replace SY := hide (SY.out.below hb)
  obtain ⟨bl, hq⟩ : ∃ q, w2.heap.size = q := ⟨_, rfl⟩
  obtain ⟨w1, hw⟩ : ∃ x, w2.alloc (.cells #[.int .i64 zi] 3) = x := ⟨_, rfl⟩
  have hsz : w1.heap.size = bl + 1 := by rw [← hw, World.size_alloc, hq]
  rw [hw] at HL HW SX SY ⊢
  rw [hq] at HL ⊢
  clear hb hw hq
  have HLIT := hide (show ILL (w1.alloc (.cells #[.slice X xn xc, .slice (some ⟨bl, 0, none⟩) 1 1, .slice Y yn yc] 22)) (some ⟨w1.heap.size, 0, none⟩) 3 [xs, [zi], ys] from
    ILL.lit (vs := [.slice X xn xc, .slice (some ⟨bl, 0, none⟩) 1 1, .slice Y yn yc]) rfl (by simp) (fun j hj => by
      match j, hj with
      | 0, _ => exact ⟨_, _, _, rfl, SX.out.il⟩
      | 1, _ => exact ⟨_, _, _, rfl, HL.out.il⟩
      | 2, _ => exact ⟨_, _, _, rfl, SY.out.il⟩
      | j + 3, h => exact absurd h (by simp)) rfl rfl)
  have hal : Below w1.heap.size w1 (w1.alloc (.cells #[.slice X xn xc, .slice (some ⟨bl, 0, none⟩) 1 1, .slice Y yn yc] 22)) := (Below.refl _ _).alloc (Nat.le_refl _) _
  have hfl : [xs, [zi], ys].flatten = xs ++ zi :: ys := by simp
  rw [hsz] at HLIT
  refine (concat_any (some ⟨bl + 1, 0, none⟩) 3 3 _ _ HLIT.out (by rw [hfl]; have := HLP.out; omega)).mono ?_
  rintro e w2 ⟨D, dn, dc, rfl, ho, hb0⟩
  have hb := hal.trans (hb0.mono hal.size)
  rw [hfl] at ho
  replace HW := hide (HW.out.trans (hb.mono HW.out.size))
  replace SX := hide (SX.out.below hb)
  replace SY := hide (SY.out.below hb)
  replace HL := hide (HL.out.below hb)
  have SD := hide ho.sl
  clear ho hb0 hal hfl HLIT hb hsz
  clear HL
  go_wp2_with fail
  refine (HF.out.poly (N : Int) D dn dc (xs ++ zi :: ys) _ SD.out HWM.out).mono ?_
  rintro e w3 ⟨P, pn, pc, rfl, hs, hn, hb⟩
  replace HW := hide (HW.out.trans (hb.mono HW.out.size))
  replace SX := hide (SX.out.below hb)
  replace SY := hide (SY.out.below hb)
  replace SD := hide (SD.out.below hb)
  dsimp only at hs ⊢
  rw [HP1.out, HE1.out]
  rw [HP1.out] at hs
  have SP := hide hs
  clear hb hs hn
  clear SD
  go_upto_region 5 with fail
  have hb : Below w3.heap.size w3 (w3.alloc (.cells #[.int .i64 (LP.canon (jon N (xs ++ zi :: ys))).1, .slice P pn pc] 24)) := (Below.refl _ _).alloc (Nat.le_refl _) _
  have BP := hide (Blk.new w3 24 #[.int .i64 (LP.canon (jon N (xs ++ zi :: ys))).1, .slice P pn pc])
  replace HW := hide (HW.out.trans (hb.mono HW.out.size))
  replace SX := hide (SX.out.below hb)
  replace SY := hide (SY.out.below hb)
  replace SP := hide (SP.out.below hb)
  obtain ⟨bP, hq⟩ : ∃ q, w3.heap.size = q := ⟨_, rfl⟩
  obtain ⟨w4, hw⟩ : ∃ x, w3.alloc (.cells #[.int .i64 (LP.canon (jon N (xs ++ zi :: ys))).1, .slice P pn pc] 24) = x := ⟨_, rfl⟩
  rw [hw] at BP HW SX SY SP ⊢
  rw [hq] at BP  ⊢
  clear hb hw hq
  go_wp2_with fail
  have hb : Below w4.heap.size w4 (w4.alloc (.cells #[.int .i64 (-zi)] 3)) := (Below.refl _ _).alloc (Nat.le_refl _) _
  have HL : Hid (SL (w4.alloc (.cells #[.int .i64 (-zi)] 3)) (some ⟨w4.heap.size, 0, none⟩) 1 1 [-zi]) := hide (SL.lit w4 [-zi] (by simp) (cs := #[.int .i64 (-zi)]) rfl (m := 1) rfl)
  replace HW := hide (HW.out.trans (hb.mono HW.out.size))
  replace SX := hide (SX.out.below hb)
  replace SY := hide (SY.out.below hb)
  replace SP := hide (SP.out.below hb)
  replace BP := hide (BP.out.below hb BP.out.lt)
  obtain ⟨bl, hq⟩ : ∃ q, w4.heap.size = q := ⟨_, rfl⟩
  obtain ⟨w5, hw⟩ : ∃ x, w4.alloc (.cells #[.int .i64 (-zi)] 3) = x := ⟨_, rfl⟩
  have hsz : w5.heap.size = bl + 1 := by rw [← hw, World.size_alloc, hq]
  rw [hw] at HL HW SX SY SP BP ⊢
  rw [hq] at HL ⊢
  clear hb hw hq
  have HLIT := hide (show ILL (w5.alloc (.cells #[.slice X xn xc, .slice (some ⟨bl, 0, none⟩) 1 1, .slice Y yn yc] 22)) (some ⟨w5.heap.size, 0, none⟩) 3 [xs, [-zi], ys] from
    ILL.lit (vs := [.slice X xn xc, .slice (some ⟨bl, 0, none⟩) 1 1, .slice Y yn yc]) rfl (by simp) (fun j hj => by
      match j, hj with
      | 0, _ => exact ⟨_, _, _, rfl, SX.out.il⟩
      | 1, _ => exact ⟨_, _, _, rfl, HL.out.il⟩
      | 2, _ => exact ⟨_, _, _, rfl, SY.out.il⟩
      | j + 3, h => exact absurd h (by simp)) rfl rfl)
  have hal : Below w5.heap.size w5 (w5.alloc (.cells #[.slice X xn xc, .slice (some ⟨bl, 0, none⟩) 1 1, .slice Y yn yc] 22)) := (Below.refl _ _).alloc (Nat.le_refl _) _
  have hfl : [xs, [-zi], ys].flatten = xs ++ -zi :: ys := by simp
  rw [hsz] at HLIT
  refine (concat_any (some ⟨bl + 1, 0, none⟩) 3 3 _ _ HLIT.out (by rw [hfl]; have := HLQ.out; omega)).mono ?_
  rintro e w6 ⟨D, dn, dc, rfl, ho, hb0⟩
  have hb := hal.trans (hb0.mono hal.size)
  rw [hfl] at ho
  replace HW := hide (HW.out.trans (hb.mono HW.out.size))
  replace SX := hide (SX.out.below hb)
  replace SY := hide (SY.out.below hb)
  replace SP := hide (SP.out.below hb)
  replace BP := hide (BP.out.below hb BP.out.lt)
  replace HL := hide (HL.out.below hb)
  have SD := hide ho.sl
  clear ho hb0 hal hfl HLIT hb hsz
  clear HL
  go_wp2_with fail
  refine (HF.out.poly (N : Int) D dn dc (xs ++ -zi :: ys) _ SD.out HWM.out).mono ?_
  rintro e w7 ⟨Q, qn, qc, rfl, hs, hn, hb⟩
  replace HW := hide (HW.out.trans (hb.mono HW.out.size))
  replace SX := hide (SX.out.below hb)
  replace SY := hide (SY.out.below hb)
  replace SP := hide (SP.out.below hb)
  replace BP := hide (BP.out.below hb BP.out.lt)
  replace SD := hide (SD.out.below hb)
  dsimp only at hs ⊢
  rw [HP2.out, HE2.out]
  rw [HP2.out] at hs
  have SQ := hide hs
  clear hb hs hn
  clear SD
  go_upto_region 6 with fail
  have hb : Below w7.heap.size w7 (w7.alloc (.cells #[.int .i64 (LP.canon (jon N (xs ++ -zi :: ys))).1, .slice Q qn qc] 24)) := (Below.refl _ _).alloc (Nat.le_refl _) _
  have BQ := hide (Blk.new w7 24 #[.int .i64 (LP.canon (jon N (xs ++ -zi :: ys))).1, .slice Q qn qc])
  replace HW := hide (HW.out.trans (hb.mono HW.out.size))
  replace SX := hide (SX.out.below hb)
  replace SY := hide (SY.out.below hb)
  replace SP := hide (SP.out.below hb)
  replace BP := hide (BP.out.below hb BP.out.lt)
  replace SQ := hide (SQ.out.below hb)
  obtain ⟨bQ, hq⟩ : ∃ q, w7.heap.size = q := ⟨_, rfl⟩
  obtain ⟨w8, hw⟩ : ∃ x, w7.alloc (.cells #[.int .i64 (LP.canon (jon N (xs ++ -zi :: ys))).1, .slice Q qn qc] 24) = x := ⟨_, rfl⟩
  rw [hw] at BQ HW SX SY SP BP SQ ⊢
  rw [hq] at BQ  ⊢
  clear hb hw hq
  go_wp2_with fail
  have HLIT := hide (show ILL (w8.alloc (.cells #[.slice X xn xc, .slice Y yn yc] 22)) (some ⟨w8.heap.size, 0, none⟩) 2 [xs, ys] from
    ILL.lit (vs := [.slice X xn xc, .slice Y yn yc]) rfl (by simp) (fun j hj => by
      match j, hj with
      | 0, _ => exact ⟨_, _, _, rfl, SX.out.il⟩
      | 1, _ => exact ⟨_, _, _, rfl, SY.out.il⟩
      | j + 2, h => exact absurd h (by simp)) rfl rfl)
  have hal : Below w8.heap.size w8 (w8.alloc (.cells #[.slice X xn xc, .slice Y yn yc] 22)) := (Below.refl _ _).alloc (Nat.le_refl _) _
  have hfl : [xs, ys].flatten = xs ++ ys := by simp
  refine (concat_any (some ⟨w8.heap.size, 0, none⟩) 2 2 _ _ HLIT.out (by rw [hfl]; have := HLR.out; omega)).mono ?_
  rintro e w9 ⟨D, dn, dc, rfl, ho, hb0⟩
  have hb := hal.trans (hb0.mono hal.size)
  rw [hfl] at ho
  replace HW := hide (HW.out.trans (hb.mono HW.out.size))
  replace SX := hide (SX.out.below hb)
  replace SY := hide (SY.out.below hb)
  replace SP := hide (SP.out.below hb)
  replace BP := hide (BP.out.below hb BP.out.lt)
  replace SQ := hide (SQ.out.below hb)
  replace BQ := hide (BQ.out.below hb BQ.out.lt)
  have SD := hide ho.sl
  clear ho hb0 hal hfl HLIT hb
  go_wp2_with fail
  refine (HF.out.poly (N : Int) D dn dc (xs ++ ys) _ SD.out HWM.out).mono ?_
  rintro e w10 ⟨R, rn, rc, rfl, hs, hn, hb⟩
  replace HW := hide (HW.out.trans (hb.mono HW.out.size))
  replace SX := hide (SX.out.below hb)
  replace SY := hide (SY.out.below hb)
  replace SP := hide (SP.out.below hb)
  replace BP := hide (BP.out.below hb BP.out.lt)
  replace SQ := hide (SQ.out.below hb)
  replace BQ := hide (BQ.out.below hb BQ.out.lt)
  replace SD := hide (SD.out.below hb)
  dsimp only at hs ⊢
  rw [HP3.out, HE3.out]
  rw [HP3.out] at hs
  have SR := hide hs
  clear hb hs hn
  clear SD
  go_upto_region 7 with fail
  have hb : Below w10.heap.size w10 (w10.alloc (.cells #[.int .i64 (LP.canon (jon N (xs ++ ys))).1, .slice R rn rc] 24)) := (Below.refl _ _).alloc (Nat.le_refl _) _
  have BR := hide (Blk.new w10 24 #[.int .i64 (LP.canon (jon N (xs ++ ys))).1, .slice R rn rc])
  replace HW := hide (HW.out.trans (hb.mono HW.out.size))
  replace SX := hide (SX.out.below hb)
  replace SY := hide (SY.out.below hb)
  replace SP := hide (SP.out.below hb)
  replace BP := hide (BP.out.below hb BP.out.lt)
  replace SQ := hide (SQ.out.below hb)
  replace BQ := hide (BQ.out.below hb BQ.out.lt)
  replace SR := hide (SR.out.below hb)
  obtain ⟨bR, hq⟩ : ∃ q, w10.heap.size = q := ⟨_, rfl⟩
  obtain ⟨w11, hw⟩ : ∃ x, w10.alloc (.cells #[.int .i64 (LP.canon (jon N (xs ++ ys))).1, .slice R rn rc] 24) = x := ⟨_, rfl⟩
  rw [hw] at BR HW SX SY SP BP SQ BQ SR ⊢
  rw [hq] at BR  ⊢
  clear hb hw hq
  clear SX SY
  generalize jon N (xs ++ zi :: ys) = JP at *
  generalize jon N (xs ++ -zi :: ys) = JQ at *
  generalize jon N (xs ++ ys) = JR at *
  have HC4 := hide (LP.canon_term1 4)
  have HCM := hide (LP.canon_term1 (-4))
  have HCK := hide skK_canon
  have LP0 := hide BP.out.lt
  have LQ0 := hide BQ.out.lt
  clear HE1 HE2 HE3 HP1 HP2 HP3 HLP HLQ HLR hpw hpn
  go_cut [17, 18, 68, 69, 70, 71, 72, 73, 74, 75, 76, 77, 78, 79] (fun v u _ _ _ _ _ _ _ _ _ _ _ _ wx => ∃ bG G gn gc, v = .pointer (some ⟨bG, 0, none⟩) ∧ u = .int .i64 0 ∧ Blk wx bG 24 #[.int .i64 (LP.canon L).1, .slice G gn gc] ∧ SL wx G gn gc (LP.canon L).2 ∧ Below w11.heap.size w11 wx)
  case first =>
    refine wp_region_noPanic ?_
    refine wp_region_held_drew (S := fun x => Below w11.heap.size w11 x) (by kernel_rfl) (Below.refl _ _).drew (fun hS0 => ?_)
    refine wpAnyH_tk 2 (v := PV (LP.canon JP).1 P pn pc) rfl (by kernel_rfl) (by kernel_rfl) (by kernel_rfl) (yi rfl fun w' hw' => gives_loadRow rfl rfl (BP.out.below hw' LP0.out) Try.underlying24 (by kernel_rfl) (by kernel_rfl)) hS0 ?_
    go_frame
    refine wpAnyH_tk 6 (v := PV (LP.canon JQ).1 Q qn qc) rfl (by kernel_rfl) (by kernel_rfl) (by kernel_rfl) (yi rfl fun w' hw' => gives_loadRow rfl rfl (BQ.out.below hw' LQ0.out) Try.underlying24 (by kernel_rfl) (by kernel_rfl)) hS0 ?_
    go_frame
    refine wpAnyH_3 0 4 12 rfl rfl rfl (by kernel_rfl) ?_ ?_ ?_
    · have hb : Below w11.drew.heap.size w11.drew (w11.drew.alloc (.cells #[.int .i64 1] 3)) := (Below.refl _ _).alloc (Nat.le_refl _) _
      have hl : SL (w11.drew.alloc (.cells #[.int .i64 1] 3)) (some ⟨w11.drew.heap.size, 0, none⟩) 1 1 [1] := SL.lit w11.drew [1] (by decide) rfl rfl
      have hS1 : Below w11.heap.size w11 (w11.drew.alloc (.cells #[.int .i64 1] 3)) := hS0.trans (hb.mono hS0.size)
      refine wp_buildSlice_at (cells := #[.int .i64 1]) (l := [(0, .const (.int .i64 1))]) i0 _ 1 [(0, .int .i64 1)] rfl Try.underlying22 HI0.out HZ0.out HZ1.out (by decide) (by decide) rfl (by simp [Instr.fill, Value.cells, show Array.range (1 * 1) = #[0] from rfl]) ⟨hS1, ?_⟩
      obtain ⟨b69, hq⟩ : ∃ q, w11.drew.heap.size = q := ⟨_, rfl⟩
      obtain ⟨u1, hw⟩ : ∃ x, w11.drew.alloc (.cells #[.int .i64 1] 3) = x := ⟨_, rfl⟩
      rw [hw] at hl hS1  ⊢
      rw [hq] at hl ⊢
      have S69 := hide hl
      clear hb hq hw hl
      go_frame
      refine wpAnyH_tk 1 (v := PV 4 (some ⟨b69, 0, none⟩) 1 1) rfl (by kernel_rfl) (by kernel_rfl) (by kernel_rfl) (yi rfl fun w' hw' => gives_build [(0, .int .i64 4), (1, .slice (some ⟨b69, 0, none⟩) 1 1)] rfl rfl (by kernel_rfl)) hS1 ?_
      go_frame
      refine wpAnyH_3 3 4 12 rfl rfl rfl (by kernel_rfl) ?_ ?_ ?_
      · have CM := mul_c HFP.out HSK.out.r4 HSK.out.rP HSK.out.rP4 HSK.out.e1 u1 (some ⟨b69, 0, none⟩) 1 1 P pn pc (by rw [HC4.out]; exact S69.out) (SP.out.below hS1)
        rw [HC4.out] at CM
        refine wp_call [PV 4 (some ⟨b69, 0, none⟩) 1 1, PV (LP.canon JP).1 P pn pc] rfl rfl eMulK rfl ((CM).mono ?_)
        rintro e u2 ⟨U, un, uc, rfl, hs, hnw, hb⟩
        clear CM
        have hS2 : Below w11.heap.size w11 u2 := hS1.trans (hb.mono hS1.size)
        replace S69 := hide (S69.out.below hb)
        have SU := hide hs
        clear hb hs
        refine ⟨_, rfl, hS2, ?_⟩
        go_frame
        refine wpAnyH_2 4 12 rfl rfl (by kernel_rfl) ?_ ?_
        · have hb : Below u2.heap.size u2 (u2.alloc (.cells #[.int .i64 1] 3)) := (Below.refl _ _).alloc (Nat.le_refl _) _
          have hl : SL (u2.alloc (.cells #[.int .i64 1] 3)) (some ⟨u2.heap.size, 0, none⟩) 1 1 [1] := SL.lit u2 [1] (by decide) rfl rfl
          replace S69 := hide (S69.out.below hb)
          replace SU := hide (SU.out.below hb)
          have hS3 : Below w11.heap.size w11 (u2.alloc (.cells #[.int .i64 1] 3)) := hS2.trans (hb.mono hS2.size)
          refine wp_buildSlice_at (cells := #[.int .i64 1]) (l := [(0, .const (.int .i64 1))]) i0 _ 1 [(0, .int .i64 1)] rfl Try.underlying22 HI0.out HZ0.out HZ1.out (by decide) (by decide) rfl (by simp [Instr.fill, Value.cells, show Array.range (1 * 1) = #[0] from rfl]) ⟨hS3, ?_⟩
          obtain ⟨b73, hq⟩ : ∃ q, u2.heap.size = q := ⟨_, rfl⟩
          obtain ⟨u3, hw⟩ : ∃ x, u2.alloc (.cells #[.int .i64 1] 3) = x := ⟨_, rfl⟩
          rw [hw] at hl hS3 S69 SU ⊢
          rw [hq] at hl ⊢
          have S73 := hide hl
          clear hb hq hw hl
          go_frame
          refine wpAnyH_tk 5 (v := PV (-4) (some ⟨b73, 0, none⟩) 1 1) rfl (by kernel_rfl) (by kernel_rfl) (by kernel_rfl) (yi rfl fun w' hw' => gives_build [(0, .int .i64 (-4)), (1, .slice (some ⟨b73, 0, none⟩) 1 1)] rfl rfl (by kernel_rfl)) hS3 ?_
          go_frame
          refine wpAnyH_2 7 12 rfl rfl (by kernel_rfl) ?_ ?_
          · have CM := mul_c HFP.out HSK.out.rm HSK.out.rQ HSK.out.rQ4 HSK.out.e2 u3 (some ⟨b73, 0, none⟩) 1 1 Q qn qc (by rw [HCM.out]; exact S73.out) (SQ.out.below hS3)
            rw [HCM.out] at CM
            refine wp_call [PV (-4) (some ⟨b73, 0, none⟩) 1 1, PV (LP.canon JQ).1 Q qn qc] rfl rfl eMulK rfl ((CM).mono ?_)
            rintro e u4 ⟨V, vn, vc, rfl, hs, hnw, hb⟩
            clear CM
            have hS4 : Below w11.heap.size w11 u4 := hS3.trans (hb.mono hS3.size)
            replace S69 := hide (S69.out.below hb)
            replace SU := hide (SU.out.below hb)
            replace S73 := hide (S73.out.below hb)
            have SV := hide hs
            clear hb hs
            refine ⟨_, rfl, hS4, ?_⟩
            go_frame
            refine wpAnyH_2 8 12 rfl rfl (by kernel_rfl) ?_ ?_
            · refine wp_call [PV (LP.canon P4).1 U un uc, PV (LP.canon Q4).1 V vn vc] rfl rfl eSubL rfl ((sk_sub HFP.out HSK.out.rP4 HSK.out.rQ4 HSK.out.rL HSK.out.e3 u4 U un uc V vn vc SU.out SV.out).mono ?_)
              rintro e u5 ⟨G, gn, gc, rfl, hs, hN, hb⟩
              dsimp only at hs ⊢
              have hS5 : Below w11.heap.size w11 u5 := hS4.trans (hb.mono hS4.size)
              replace S69 := hide (S69.out.below hb)
              replace SU := hide (SU.out.below hb)
              replace S73 := hide (S73.out.below hb)
              replace SV := hide (SV.out.below hb)
              have SG := hide hs
              clear hb hs
              refine ⟨_, rfl, hS5, ?_⟩
              go_frame
              refine wpAnyH_tk 9 (v := .tuple #[PV (LP.canon L).1 G gn gc, .int .i64 0]) rfl (by kernel_rfl) (by kernel_rfl) (by kernel_rfl) (yi rfl fun w' hw' => gives_move (.inl rfl) rfl) hS5 ?_
              go_frame
              refine wpAnyH_tk 10 (v := PV (LP.canon L).1 G gn gc) rfl (by kernel_rfl) (by kernel_rfl) (by kernel_rfl) (yi rfl fun w' hw' => gives_extract rfl rfl rfl) hS5 ?_
              go_frame
              refine wpAnyH_tk 11 (v := .int .i64 0) rfl (by kernel_rfl) (by kernel_rfl) (by kernel_rfl) (yi rfl fun w' hw' => gives_extract rfl rfl rfl) hS5 ?_
              go_frame
              refine wpAnyH_1 12 rfl (by kernel_rfl) ?_
              have hS6 : Below w11.heap.size w11 (u5.alloc (.cells #[.int .i64 0, .slice none 0 0] 24)) := hS5.alloc hS5.size _
              have hb : Below u5.heap.size u5 (u5.alloc (.cells #[.int .i64 0, .slice none 0 0] 24)) := (Below.refl _ _).alloc (Nat.le_refl _) _
              have g_bG : w11.heap.size ≤ u5.heap.size := hS5.size
              have ne_bG : 0 < gn → ∀ ad, G = some ad → ad.block ≠ u5.heap.size := fun h ad e => by obtain ⟨ad2, e2, hl, _⟩ := SG.out.il.mem h; rw [e] at e2; cases e2; omega
              replace S69 := hide (S69.out.below hb)
              replace SU := hide (SU.out.below hb)
              replace S73 := hide (S73.out.below hb)
              replace SV := hide (SV.out.below hb)
              replace SG := hide (SG.out.below hb)
              have BG := hide (Blk.new u5 24 #[.int .i64 0, .slice none 0 0])
              refine wp_alloc (z := .agg #[.int .i64 0, .slice none 0 0]) (cs := #[.int .i64 0, .slice none 0 0]) rfl (by kernel_rfl) rfl ⟨hS6, ?_⟩
              obtain ⟨bG, hq⟩ : ∃ q, u5.heap.size = q := ⟨_, rfl⟩
              rw [hq] at BG g_bG ne_bG ⊢
              obtain ⟨u6, hw⟩ : ∃ x, u5.alloc (.cells #[.int .i64 0, .slice none 0 0] 24) = x := ⟨_, rfl⟩
              rw [hw] at hS6 BG S69 SU S73 SV SG ⊢
              clear hb hw hq
              go_frame
              refine wpAnyH_1 13 rfl (by kernel_rfl) ?_
              have hS7 : Below w11.heap.size w11 (u6.setRow bG #[.int .i64 (LP.canon L).1, .slice G gn gc]) := Below.setRow_ hS6 g_bG _
              refine wp_storeRow rfl rfl rfl BG.out (by kernel_rfl) rfl (by kernel_rfl) ⟨hS7, ?_⟩
              replace SG := hide (SG.out.setRow_ ne_bG #[.int .i64 (LP.canon L).1, .slice G gn gc])
              have hbk2 : Blk (u6.setRow bG #[.int .i64 (LP.canon L).1, .slice G gn gc]) bG 24 #[.int .i64 (LP.canon L).1, .slice G gn gc] := setRow_heap _ _ _ _ _ _ BG.out
              replace BG := hide hbk2
              clear hbk2
              go_frame
              refine wpAnyH_tk 14 (v := .int .i64 0) rfl (by kernel_rfl) (by kernel_rfl) (by kernel_rfl) (yi rfl fun w' hw' => gives_move (.inr rfl) rfl) hS7 ?_
              go_frame
              refine wpAnyH_done (by kernel_rfl) (noPanic_mk ?_) _
              go_wp2_with fail
              go_meet
              exact ⟨bG, G, gn, gc, rfl, rfl, BG.out, SG.out, hS7⟩
            · have hS8 : Below w11.heap.size w11 (u4.alloc (.cells #[.int .i64 0, .slice none 0 0] 24)) := hS4.alloc hS4.size _
              have hb : Below u4.heap.size u4 (u4.alloc (.cells #[.int .i64 0, .slice none 0 0] 24)) := (Below.refl _ _).alloc (Nat.le_refl _) _
              have g_bG : w11.heap.size ≤ u4.heap.size := hS4.size
              replace S69 := hide (S69.out.below hb)
              replace SU := hide (SU.out.below hb)
              replace S73 := hide (S73.out.below hb)
              replace SV := hide (SV.out.below hb)
              have BG := hide (Blk.new u4 24 #[.int .i64 0, .slice none 0 0])
              refine wp_alloc (z := .agg #[.int .i64 0, .slice none 0 0]) (cs := #[.int .i64 0, .slice none 0 0]) rfl (by kernel_rfl) rfl ⟨hS8, ?_⟩
              obtain ⟨bG, hq⟩ : ∃ q, u4.heap.size = q := ⟨_, rfl⟩
              rw [hq] at BG g_bG  ⊢
              obtain ⟨u8, hw⟩ : ∃ x, u4.alloc (.cells #[.int .i64 0, .slice none 0 0] 24) = x := ⟨_, rfl⟩
              rw [hw] at hS8 BG S69 SU S73 SV ⊢
              clear hb hw hq
              go_frame
              refine wpAnyH_1 8 rfl (by kernel_rfl) ?_
              refine wp_call [PV (LP.canon P4).1 U un uc, PV (LP.canon Q4).1 V vn vc] rfl rfl eSubL rfl ((sk_sub HFP.out HSK.out.rP4 HSK.out.rQ4 HSK.out.rL HSK.out.e3 u8 U un uc V vn vc SU.out SV.out).mono ?_)
              rintro e u9 ⟨G, gn, gc, rfl, hs, hN, hb⟩
              dsimp only at hs ⊢
              have hS9 : Below w11.heap.size w11 u9 := hS8.trans (hb.mono hS8.size)
              have ne_bG : 0 < gn → ∀ ad, G = some ad → ad.block ≠ bG := fun h ad e => by have := hN h ad e; have := BG.out.lt; omega
              replace S69 := hide (S69.out.below hb)
              replace SU := hide (SU.out.below hb)
              replace S73 := hide (S73.out.below hb)
              replace SV := hide (SV.out.below hb)
              replace BG := hide (BG.out.below hb BG.out.lt)
              have SG := hide hs
              clear hb hs
              refine ⟨_, rfl, hS9, ?_⟩
              go_frame
              refine wpAnyH_tk 9 (v := .tuple #[PV (LP.canon L).1 G gn gc, .int .i64 0]) rfl (by kernel_rfl) (by kernel_rfl) (by kernel_rfl) (yi rfl fun w' hw' => gives_move (.inl rfl) rfl) hS9 ?_
              go_frame
              refine wpAnyH_tk 10 (v := PV (LP.canon L).1 G gn gc) rfl (by kernel_rfl) (by kernel_rfl) (by kernel_rfl) (yi rfl fun w' hw' => gives_extract rfl rfl rfl) hS9 ?_
              go_frame
              refine wpAnyH_tk 11 (v := .int .i64 0) rfl (by kernel_rfl) (by kernel_rfl) (by kernel_rfl) (yi rfl fun w' hw' => gives_extract rfl rfl rfl) hS9 ?_
              go_frame
              refine wpAnyH_1 13 rfl (by kernel_rfl) ?_
              have hS10 : Below w11.heap.size w11 (u9.setRow bG #[.int .i64 (LP.canon L).1, .slice G gn gc]) := Below.setRow_ hS9 g_bG _
              refine wp_storeRow rfl rfl rfl BG.out (by kernel_rfl) rfl (by kernel_rfl) ⟨hS10, ?_⟩
              replace SG := hide (SG.out.setRow_ ne_bG #[.int .i64 (LP.canon L).1, .slice G gn gc])
              have hbk2 : Blk (u9.setRow bG #[.int .i64 (LP.canon L).1, .slice G gn gc]) bG 24 #[.int .i64 (LP.canon L).1, .slice G gn gc] := setRow_heap _ _ _ _ _ _ BG.out
              replace BG := hide hbk2
              clear hbk2
              go_frame
              refine wpAnyH_tk 14 (v := .int .i64 0) rfl (by kernel_rfl) (by kernel_rfl) (by kernel_rfl) (yi rfl fun w' hw' => gives_move (.inr rfl) rfl) hS10 ?_
              go_frame
              refine wpAnyH_done (by kernel_rfl) (noPanic_mk ?_) _
              go_wp2_with fail
              go_meet
              exact ⟨bG, G, gn, gc, rfl, rfl, BG.out, SG.out, hS10⟩
          · have hS11 : Below w11.heap.size w11 (u3.alloc (.cells #[.int .i64 0, .slice none 0 0] 24)) := hS3.alloc hS3.size _
            have hb : Below u3.heap.size u3 (u3.alloc (.cells #[.int .i64 0, .slice none 0 0] 24)) := (Below.refl _ _).alloc (Nat.le_refl _) _
            have g_bG : w11.heap.size ≤ u3.heap.size := hS3.size
            replace S69 := hide (S69.out.below hb)
            replace SU := hide (SU.out.below hb)
            replace S73 := hide (S73.out.below hb)
            have BG := hide (Blk.new u3 24 #[.int .i64 0, .slice none 0 0])
            refine wp_alloc (z := .agg #[.int .i64 0, .slice none 0 0]) (cs := #[.int .i64 0, .slice none 0 0]) rfl (by kernel_rfl) rfl ⟨hS11, ?_⟩
            obtain ⟨bG, hq⟩ : ∃ q, u3.heap.size = q := ⟨_, rfl⟩
            rw [hq] at BG g_bG  ⊢
            obtain ⟨u11, hw⟩ : ∃ x, u3.alloc (.cells #[.int .i64 0, .slice none 0 0] 24) = x := ⟨_, rfl⟩
            rw [hw] at hS11 BG S69 SU S73 ⊢
            clear hb hw hq
            go_frame
            refine wpAnyH_1 7 rfl (by kernel_rfl) ?_
            have CM := mul_c HFP.out HSK.out.rm HSK.out.rQ HSK.out.rQ4 HSK.out.e2 u11 (some ⟨b73, 0, none⟩) 1 1 Q qn qc (by rw [HCM.out]; exact S73.out) (SQ.out.below hS11)
            rw [HCM.out] at CM
            refine wp_call [PV (-4) (some ⟨b73, 0, none⟩) 1 1, PV (LP.canon JQ).1 Q qn qc] rfl rfl eMulK rfl ((CM).mono ?_)
            rintro e u12 ⟨V, vn, vc, rfl, hs, hnw, hb⟩
            clear CM
            have hS12 : Below w11.heap.size w11 u12 := hS11.trans (hb.mono hS11.size)
            replace S69 := hide (S69.out.below hb)
            replace SU := hide (SU.out.below hb)
            replace S73 := hide (S73.out.below hb)
            replace BG := hide (BG.out.below hb BG.out.lt)
            have SV := hide hs
            clear hb hs
            refine ⟨_, rfl, hS12, ?_⟩
            go_frame
            refine wpAnyH_1 8 rfl (by kernel_rfl) ?_
            refine wp_call [PV (LP.canon P4).1 U un uc, PV (LP.canon Q4).1 V vn vc] rfl rfl eSubL rfl ((sk_sub HFP.out HSK.out.rP4 HSK.out.rQ4 HSK.out.rL HSK.out.e3 u12 U un uc V vn vc SU.out SV.out).mono ?_)
            rintro e u13 ⟨G, gn, gc, rfl, hs, hN, hb⟩
            dsimp only at hs ⊢
            have hS13 : Below w11.heap.size w11 u13 := hS12.trans (hb.mono hS12.size)
            have ne_bG : 0 < gn → ∀ ad, G = some ad → ad.block ≠ bG := fun h ad e => by have := hN h ad e; have := BG.out.lt; omega
            replace S69 := hide (S69.out.below hb)
            replace SU := hide (SU.out.below hb)
            replace S73 := hide (S73.out.below hb)
            replace BG := hide (BG.out.below hb BG.out.lt)
            replace SV := hide (SV.out.below hb)
            have SG := hide hs
            clear hb hs
            refine ⟨_, rfl, hS13, ?_⟩
            go_frame
            refine wpAnyH_tk 9 (v := .tuple #[PV (LP.canon L).1 G gn gc, .int .i64 0]) rfl (by kernel_rfl) (by kernel_rfl) (by kernel_rfl) (yi rfl fun w' hw' => gives_move (.inl rfl) rfl) hS13 ?_
            go_frame
            refine wpAnyH_tk 10 (v := PV (LP.canon L).1 G gn gc) rfl (by kernel_rfl) (by kernel_rfl) (by kernel_rfl) (yi rfl fun w' hw' => gives_extract rfl rfl rfl) hS13 ?_
            go_frame
            refine wpAnyH_tk 11 (v := .int .i64 0) rfl (by kernel_rfl) (by kernel_rfl) (by kernel_rfl) (yi rfl fun w' hw' => gives_extract rfl rfl rfl) hS13 ?_
            go_frame
            refine wpAnyH_1 13 rfl (by kernel_rfl) ?_
            have hS14 : Below w11.heap.size w11 (u13.setRow bG #[.int .i64 (LP.canon L).1, .slice G gn gc]) := Below.setRow_ hS13 g_bG _
            refine wp_storeRow rfl rfl rfl BG.out (by kernel_rfl) rfl (by kernel_rfl) ⟨hS14, ?_⟩
            replace SG := hide (SG.out.setRow_ ne_bG #[.int .i64 (LP.canon L).1, .slice G gn gc])
            have hbk2 : Blk (u13.setRow bG #[.int .i64 (LP.canon L).1, .slice G gn gc]) bG 24 #[.int .i64 (LP.canon L).1, .slice G gn gc] := setRow_heap _ _ _ _ _ _ BG.out
            replace BG := hide hbk2
            clear hbk2
            go_frame
            refine wpAnyH_tk 14 (v := .int .i64 0) rfl (by kernel_rfl) (by kernel_rfl) (by kernel_rfl) (yi rfl fun w' hw' => gives_move (.inr rfl) rfl) hS14 ?_
            go_frame
            refine wpAnyH_done (by kernel_rfl) (noPanic_mk ?_) _
            go_wp2_with fail
            go_meet
            exact ⟨bG, G, gn, gc, rfl, rfl, BG.out, SG.out, hS14⟩
        · have hS15 : Below w11.heap.size w11 (u2.alloc (.cells #[.int .i64 0, .slice none 0 0] 24)) := hS2.alloc hS2.size _
          have hb : Below u2.heap.size u2 (u2.alloc (.cells #[.int .i64 0, .slice none 0 0] 24)) := (Below.refl _ _).alloc (Nat.le_refl _) _
          have g_bG : w11.heap.size ≤ u2.heap.size := hS2.size
          replace S69 := hide (S69.out.below hb)
          replace SU := hide (SU.out.below hb)
          have BG := hide (Blk.new u2 24 #[.int .i64 0, .slice none 0 0])
          refine wp_alloc (z := .agg #[.int .i64 0, .slice none 0 0]) (cs := #[.int .i64 0, .slice none 0 0]) rfl (by kernel_rfl) rfl ⟨hS15, ?_⟩
          obtain ⟨bG, hq⟩ : ∃ q, u2.heap.size = q := ⟨_, rfl⟩
          rw [hq] at BG g_bG  ⊢
          obtain ⟨u15, hw⟩ : ∃ x, u2.alloc (.cells #[.int .i64 0, .slice none 0 0] 24) = x := ⟨_, rfl⟩
          rw [hw] at hS15 BG S69 SU ⊢
          clear hb hw hq
          go_frame
          refine wpAnyH_1 4 rfl (by kernel_rfl) ?_
          have hb : Below u15.heap.size u15 (u15.alloc (.cells #[.int .i64 1] 3)) := (Below.refl _ _).alloc (Nat.le_refl _) _
          have hl : SL (u15.alloc (.cells #[.int .i64 1] 3)) (some ⟨u15.heap.size, 0, none⟩) 1 1 [1] := SL.lit u15 [1] (by decide) rfl rfl
          replace S69 := hide (S69.out.below hb)
          replace SU := hide (SU.out.below hb)
          replace BG := hide (BG.out.below hb BG.out.lt)
          have hS16 : Below w11.heap.size w11 (u15.alloc (.cells #[.int .i64 1] 3)) := hS15.trans (hb.mono hS15.size)
          refine wp_buildSlice_at (cells := #[.int .i64 1]) (l := [(0, .const (.int .i64 1))]) i0 _ 1 [(0, .int .i64 1)] rfl Try.underlying22 HI0.out HZ0.out HZ1.out (by decide) (by decide) rfl (by simp [Instr.fill, Value.cells, show Array.range (1 * 1) = #[0] from rfl]) ⟨hS16, ?_⟩
          obtain ⟨b73, hq⟩ : ∃ q, u15.heap.size = q := ⟨_, rfl⟩
          obtain ⟨u16, hw⟩ : ∃ x, u15.alloc (.cells #[.int .i64 1] 3) = x := ⟨_, rfl⟩
          rw [hw] at hl hS16 S69 SU BG ⊢
          rw [hq] at hl ⊢
          have S73 := hide hl
          clear hb hq hw hl
          go_frame
          refine wpAnyH_tk 5 (v := PV (-4) (some ⟨b73, 0, none⟩) 1 1) rfl (by kernel_rfl) (by kernel_rfl) (by kernel_rfl) (yi rfl fun w' hw' => gives_build [(0, .int .i64 (-4)), (1, .slice (some ⟨b73, 0, none⟩) 1 1)] rfl rfl (by kernel_rfl)) hS16 ?_
          go_frame
          refine wpAnyH_1 7 rfl (by kernel_rfl) ?_
          have CM := mul_c HFP.out HSK.out.rm HSK.out.rQ HSK.out.rQ4 HSK.out.e2 u16 (some ⟨b73, 0, none⟩) 1 1 Q qn qc (by rw [HCM.out]; exact S73.out) (SQ.out.below hS16)
          rw [HCM.out] at CM
          refine wp_call [PV (-4) (some ⟨b73, 0, none⟩) 1 1, PV (LP.canon JQ).1 Q qn qc] rfl rfl eMulK rfl ((CM).mono ?_)
          rintro e u17 ⟨V, vn, vc, rfl, hs, hnw, hb⟩
          clear CM
          have hS17 : Below w11.heap.size w11 u17 := hS16.trans (hb.mono hS16.size)
          replace S69 := hide (S69.out.below hb)
          replace SU := hide (SU.out.below hb)
          replace BG := hide (BG.out.below hb BG.out.lt)
          replace S73 := hide (S73.out.below hb)
          have SV := hide hs
          clear hb hs
          refine ⟨_, rfl, hS17, ?_⟩
          go_frame
          refine wpAnyH_1 8 rfl (by kernel_rfl) ?_
          refine wp_call [PV (LP.canon P4).1 U un uc, PV (LP.canon Q4).1 V vn vc] rfl rfl eSubL rfl ((sk_sub HFP.out HSK.out.rP4 HSK.out.rQ4 HSK.out.rL HSK.out.e3 u17 U un uc V vn vc SU.out SV.out).mono ?_)
          rintro e u18 ⟨G, gn, gc, rfl, hs, hN, hb⟩
          dsimp only at hs ⊢
          have hS18 : Below w11.heap.size w11 u18 := hS17.trans (hb.mono hS17.size)
          have ne_bG : 0 < gn → ∀ ad, G = some ad → ad.block ≠ bG := fun h ad e => by have := hN h ad e; have := BG.out.lt; omega
          replace S69 := hide (S69.out.below hb)
          replace SU := hide (SU.out.below hb)
          replace BG := hide (BG.out.below hb BG.out.lt)
          replace S73 := hide (S73.out.below hb)
          replace SV := hide (SV.out.below hb)
          have SG := hide hs
          clear hb hs
          refine ⟨_, rfl, hS18, ?_⟩
          go_frame
          refine wpAnyH_tk 9 (v := .tuple #[PV (LP.canon L).1 G gn gc, .int .i64 0]) rfl (by kernel_rfl) (by kernel_rfl) (by kernel_rfl) (yi rfl fun w' hw' => gives_move (.inl rfl) rfl) hS18 ?_
          go_frame
          refine wpAnyH_tk 10 (v := PV (LP.canon L).1 G gn gc) rfl (by kernel_rfl) (by kernel_rfl) (by kernel_rfl) (yi rfl fun w' hw' => gives_extract rfl rfl rfl) hS18 ?_
          go_frame
          refine wpAnyH_tk 11 (v := .int .i64 0) rfl (by kernel_rfl) (by kernel_rfl) (by kernel_rfl) (yi rfl fun w' hw' => gives_extract rfl rfl rfl) hS18 ?_
          go_frame
          refine wpAnyH_1 13 rfl (by kernel_rfl) ?_
          have hS19 : Below w11.heap.size w11 (u18.setRow bG #[.int .i64 (LP.canon L).1, .slice G gn gc]) := Below.setRow_ hS18 g_bG _
          refine wp_storeRow rfl rfl rfl BG.out (by kernel_rfl) rfl (by kernel_rfl) ⟨hS19, ?_⟩
          replace SG := hide (SG.out.setRow_ ne_bG #[.int .i64 (LP.canon L).1, .slice G gn gc])
          have hbk2 : Blk (u18.setRow bG #[.int .i64 (LP.canon L).1, .slice G gn gc]) bG 24 #[.int .i64 (LP.canon L).1, .slice G gn gc] := setRow_heap _ _ _ _ _ _ BG.out
          replace BG := hide hbk2
          clear hbk2
          go_frame
          refine wpAnyH_tk 14 (v := .int .i64 0) rfl (by kernel_rfl) (by kernel_rfl) (by kernel_rfl) (yi rfl fun w' hw' => gives_move (.inr rfl) rfl) hS19 ?_
          go_frame
          refine wpAnyH_done (by kernel_rfl) (noPanic_mk ?_) _
          go_wp2_with fail
          go_meet
          exact ⟨bG, G, gn, gc, rfl, rfl, BG.out, SG.out, hS19⟩
      · have hb : Below u1.heap.size u1 (u1.alloc (.cells #[.int .i64 1] 3)) := (Below.refl _ _).alloc (Nat.le_refl _) _
        have hl : SL (u1.alloc (.cells #[.int .i64 1] 3)) (some ⟨u1.heap.size, 0, none⟩) 1 1 [1] := SL.lit u1 [1] (by decide) rfl rfl
        replace S69 := hide (S69.out.below hb)
        have hS20 : Below w11.heap.size w11 (u1.alloc (.cells #[.int .i64 1] 3)) := hS1.trans (hb.mono hS1.size)
        refine wp_buildSlice_at (cells := #[.int .i64 1]) (l := [(0, .const (.int .i64 1))]) i0 _ 1 [(0, .int .i64 1)] rfl Try.underlying22 HI0.out HZ0.out HZ1.out (by decide) (by decide) rfl (by simp [Instr.fill, Value.cells, show Array.range (1 * 1) = #[0] from rfl]) ⟨hS20, ?_⟩
        obtain ⟨b73, hq⟩ : ∃ q, u1.heap.size = q := ⟨_, rfl⟩
        obtain ⟨u20, hw⟩ : ∃ x, u1.alloc (.cells #[.int .i64 1] 3) = x := ⟨_, rfl⟩
        rw [hw] at hl hS20 S69 ⊢
        rw [hq] at hl ⊢
        have S73 := hide hl
        clear hb hq hw hl
        go_frame
        refine wpAnyH_tk 5 (v := PV (-4) (some ⟨b73, 0, none⟩) 1 1) rfl (by kernel_rfl) (by kernel_rfl) (by kernel_rfl) (yi rfl fun w' hw' => gives_build [(0, .int .i64 (-4)), (1, .slice (some ⟨b73, 0, none⟩) 1 1)] rfl rfl (by kernel_rfl)) hS20 ?_
        go_frame
        refine wpAnyH_2 3 12 rfl rfl (by kernel_rfl) ?_ ?_
        · have CM := mul_c HFP.out HSK.out.r4 HSK.out.rP HSK.out.rP4 HSK.out.e1 u20 (some ⟨b69, 0, none⟩) 1 1 P pn pc (by rw [HC4.out]; exact S69.out) (SP.out.below hS20)
          rw [HC4.out] at CM
          refine wp_call [PV 4 (some ⟨b69, 0, none⟩) 1 1, PV (LP.canon JP).1 P pn pc] rfl rfl eMulK rfl ((CM).mono ?_)
          rintro e u21 ⟨U, un, uc, rfl, hs, hnw, hb⟩
          clear CM
          have hS21 : Below w11.heap.size w11 u21 := hS20.trans (hb.mono hS20.size)
          replace S69 := hide (S69.out.below hb)
          replace S73 := hide (S73.out.below hb)
          have SU := hide hs
          clear hb hs
          refine ⟨_, rfl, hS21, ?_⟩
          go_frame
          refine wpAnyH_2 7 12 rfl rfl (by kernel_rfl) ?_ ?_
          · have CM := mul_c HFP.out HSK.out.rm HSK.out.rQ HSK.out.rQ4 HSK.out.e2 u21 (some ⟨b73, 0, none⟩) 1 1 Q qn qc (by rw [HCM.out]; exact S73.out) (SQ.out.below hS21)
            rw [HCM.out] at CM
            refine wp_call [PV (-4) (some ⟨b73, 0, none⟩) 1 1, PV (LP.canon JQ).1 Q qn qc] rfl rfl eMulK rfl ((CM).mono ?_)
            rintro e u22 ⟨V, vn, vc, rfl, hs, hnw, hb⟩
            clear CM
            have hS22 : Below w11.heap.size w11 u22 := hS21.trans (hb.mono hS21.size)
            replace S69 := hide (S69.out.below hb)
            replace S73 := hide (S73.out.below hb)
            replace SU := hide (SU.out.below hb)
            have SV := hide hs
            clear hb hs
            refine ⟨_, rfl, hS22, ?_⟩
            go_frame
            refine wpAnyH_2 8 12 rfl rfl (by kernel_rfl) ?_ ?_
            · refine wp_call [PV (LP.canon P4).1 U un uc, PV (LP.canon Q4).1 V vn vc] rfl rfl eSubL rfl ((sk_sub HFP.out HSK.out.rP4 HSK.out.rQ4 HSK.out.rL HSK.out.e3 u22 U un uc V vn vc SU.out SV.out).mono ?_)
              rintro e u23 ⟨G, gn, gc, rfl, hs, hN, hb⟩
              dsimp only at hs ⊢
              have hS23 : Below w11.heap.size w11 u23 := hS22.trans (hb.mono hS22.size)
              replace S69 := hide (S69.out.below hb)
              replace S73 := hide (S73.out.below hb)
              replace SU := hide (SU.out.below hb)
              replace SV := hide (SV.out.below hb)
              have SG := hide hs
              clear hb hs
              refine ⟨_, rfl, hS23, ?_⟩
              go_frame
              refine wpAnyH_tk 9 (v := .tuple #[PV (LP.canon L).1 G gn gc, .int .i64 0]) rfl (by kernel_rfl) (by kernel_rfl) (by kernel_rfl) (yi rfl fun w' hw' => gives_move (.inl rfl) rfl) hS23 ?_
              go_frame
              refine wpAnyH_tk 10 (v := PV (LP.canon L).1 G gn gc) rfl (by kernel_rfl) (by kernel_rfl) (by kernel_rfl) (yi rfl fun w' hw' => gives_extract rfl rfl rfl) hS23 ?_
              go_frame
              refine wpAnyH_tk 11 (v := .int .i64 0) rfl (by kernel_rfl) (by kernel_rfl) (by kernel_rfl) (yi rfl fun w' hw' => gives_extract rfl rfl rfl) hS23 ?_
              go_frame
              refine wpAnyH_1 12 rfl (by kernel_rfl) ?_
              have hS24 : Below w11.heap.size w11 (u23.alloc (.cells #[.int .i64 0, .slice none 0 0] 24)) := hS23.alloc hS23.size _
              have hb : Below u23.heap.size u23 (u23.alloc (.cells #[.int .i64 0, .slice none 0 0] 24)) := (Below.refl _ _).alloc (Nat.le_refl _) _
              have g_bG : w11.heap.size ≤ u23.heap.size := hS23.size
              have ne_bG : 0 < gn → ∀ ad, G = some ad → ad.block ≠ u23.heap.size := fun h ad e => by obtain ⟨ad2, e2, hl, _⟩ := SG.out.il.mem h; rw [e] at e2; cases e2; omega
              replace S69 := hide (S69.out.below hb)
              replace S73 := hide (S73.out.below hb)
              replace SU := hide (SU.out.below hb)
              replace SV := hide (SV.out.below hb)
              replace SG := hide (SG.out.below hb)
              have BG := hide (Blk.new u23 24 #[.int .i64 0, .slice none 0 0])
              refine wp_alloc (z := .agg #[.int .i64 0, .slice none 0 0]) (cs := #[.int .i64 0, .slice none 0 0]) rfl (by kernel_rfl) rfl ⟨hS24, ?_⟩
              obtain ⟨bG, hq⟩ : ∃ q, u23.heap.size = q := ⟨_, rfl⟩
              rw [hq] at BG g_bG ne_bG ⊢
              obtain ⟨u24, hw⟩ : ∃ x, u23.alloc (.cells #[.int .i64 0, .slice none 0 0] 24) = x := ⟨_, rfl⟩
              rw [hw] at hS24 BG S69 S73 SU SV SG ⊢
              clear hb hw hq
              go_frame
              refine wpAnyH_1 13 rfl (by kernel_rfl) ?_
              have hS25 : Below w11.heap.size w11 (u24.setRow bG #[.int .i64 (LP.canon L).1, .slice G gn gc]) := Below.setRow_ hS24 g_bG _
              refine wp_storeRow rfl rfl rfl BG.out (by kernel_rfl) rfl (by kernel_rfl) ⟨hS25, ?_⟩
              replace SG := hide (SG.out.setRow_ ne_bG #[.int .i64 (LP.canon L).1, .slice G gn gc])
              have hbk2 : Blk (u24.setRow bG #[.int .i64 (LP.canon L).1, .slice G gn gc]) bG 24 #[.int .i64 (LP.canon L).1, .slice G gn gc] := setRow_heap _ _ _ _ _ _ BG.out
              replace BG := hide hbk2
              clear hbk2
              go_frame
              refine wpAnyH_tk 14 (v := .int .i64 0) rfl (by kernel_rfl) (by kernel_rfl) (by kernel_rfl) (yi rfl fun w' hw' => gives_move (.inr rfl) rfl) hS25 ?_
              go_frame
              refine wpAnyH_done (by kernel_rfl) (noPanic_mk ?_) _
              go_wp2_with fail
              go_meet
              exact ⟨bG, G, gn, gc, rfl, rfl, BG.out, SG.out, hS25⟩
            · have hS26 : Below w11.heap.size w11 (u22.alloc (.cells #[.int .i64 0, .slice none 0 0] 24)) := hS22.alloc hS22.size _
              have hb : Below u22.heap.size u22 (u22.alloc (.cells #[.int .i64 0, .slice none 0 0] 24)) := (Below.refl _ _).alloc (Nat.le_refl _) _
              have g_bG : w11.heap.size ≤ u22.heap.size := hS22.size
              replace S69 := hide (S69.out.below hb)
              replace S73 := hide (S73.out.below hb)
              replace SU := hide (SU.out.below hb)
              replace SV := hide (SV.out.below hb)
              have BG := hide (Blk.new u22 24 #[.int .i64 0, .slice none 0 0])
              refine wp_alloc (z := .agg #[.int .i64 0, .slice none 0 0]) (cs := #[.int .i64 0, .slice none 0 0]) rfl (by kernel_rfl) rfl ⟨hS26, ?_⟩
              obtain ⟨bG, hq⟩ : ∃ q, u22.heap.size = q := ⟨_, rfl⟩
              rw [hq] at BG g_bG  ⊢
              obtain ⟨u26, hw⟩ : ∃ x, u22.alloc (.cells #[.int .i64 0, .slice none 0 0] 24) = x := ⟨_, rfl⟩
              rw [hw] at hS26 BG S69 S73 SU SV ⊢
              clear hb hw hq
              go_frame
              refine wpAnyH_1 8 rfl (by kernel_rfl) ?_
              refine wp_call [PV (LP.canon P4).1 U un uc, PV (LP.canon Q4).1 V vn vc] rfl rfl eSubL rfl ((sk_sub HFP.out HSK.out.rP4 HSK.out.rQ4 HSK.out.rL HSK.out.e3 u26 U un uc V vn vc SU.out SV.out).mono ?_)
              rintro e u27 ⟨G, gn, gc, rfl, hs, hN, hb⟩
              dsimp only at hs ⊢
              have hS27 : Below w11.heap.size w11 u27 := hS26.trans (hb.mono hS26.size)
              have ne_bG : 0 < gn → ∀ ad, G = some ad → ad.block ≠ bG := fun h ad e => by have := hN h ad e; have := BG.out.lt; omega
              replace S69 := hide (S69.out.below hb)
              replace S73 := hide (S73.out.below hb)
              replace SU := hide (SU.out.below hb)
              replace SV := hide (SV.out.below hb)
              replace BG := hide (BG.out.below hb BG.out.lt)
              have SG := hide hs
              clear hb hs
              refine ⟨_, rfl, hS27, ?_⟩
              go_frame
              refine wpAnyH_tk 9 (v := .tuple #[PV (LP.canon L).1 G gn gc, .int .i64 0]) rfl (by kernel_rfl) (by kernel_rfl) (by kernel_rfl) (yi rfl fun w' hw' => gives_move (.inl rfl) rfl) hS27 ?_
              go_frame
              refine wpAnyH_tk 10 (v := PV (LP.canon L).1 G gn gc) rfl (by kernel_rfl) (by kernel_rfl) (by kernel_rfl) (yi rfl fun w' hw' => gives_extract rfl rfl rfl) hS27 ?_
              go_frame
              refine wpAnyH_tk 11 (v := .int .i64 0) rfl (by kernel_rfl) (by kernel_rfl) (by kernel_rfl) (yi rfl fun w' hw' => gives_extract rfl rfl rfl) hS27 ?_
              go_frame
              refine wpAnyH_1 13 rfl (by kernel_rfl) ?_
              have hS28 : Below w11.heap.size w11 (u27.setRow bG #[.int .i64 (LP.canon L).1, .slice G gn gc]) := Below.setRow_ hS27 g_bG _
              refine wp_storeRow rfl rfl rfl BG.out (by kernel_rfl) rfl (by kernel_rfl) ⟨hS28, ?_⟩
              replace SG := hide (SG.out.setRow_ ne_bG #[.int .i64 (LP.canon L).1, .slice G gn gc])
              have hbk2 : Blk (u27.setRow bG #[.int .i64 (LP.canon L).1, .slice G gn gc]) bG 24 #[.int .i64 (LP.canon L).1, .slice G gn gc] := setRow_heap _ _ _ _ _ _ BG.out
              replace BG := hide hbk2
              clear hbk2
              go_frame
              refine wpAnyH_tk 14 (v := .int .i64 0) rfl (by kernel_rfl) (by kernel_rfl) (by kernel_rfl) (yi rfl fun w' hw' => gives_move (.inr rfl) rfl) hS28 ?_
              go_frame
              refine wpAnyH_done (by kernel_rfl) (noPanic_mk ?_) _
              go_wp2_with fail
              go_meet
              exact ⟨bG, G, gn, gc, rfl, rfl, BG.out, SG.out, hS28⟩
          · have hS29 : Below w11.heap.size w11 (u21.alloc (.cells #[.int .i64 0, .slice none 0 0] 24)) := hS21.alloc hS21.size _
            have hb : Below u21.heap.size u21 (u21.alloc (.cells #[.int .i64 0, .slice none 0 0] 24)) := (Below.refl _ _).alloc (Nat.le_refl _) _
            have g_bG : w11.heap.size ≤ u21.heap.size := hS21.size
            replace S69 := hide (S69.out.below hb)
            replace S73 := hide (S73.out.below hb)
            replace SU := hide (SU.out.below hb)
            have BG := hide (Blk.new u21 24 #[.int .i64 0, .slice none 0 0])
            refine wp_alloc (z := .agg #[.int .i64 0, .slice none 0 0]) (cs := #[.int .i64 0, .slice none 0 0]) rfl (by kernel_rfl) rfl ⟨hS29, ?_⟩
            obtain ⟨bG, hq⟩ : ∃ q, u21.heap.size = q := ⟨_, rfl⟩
            rw [hq] at BG g_bG  ⊢
            obtain ⟨u29, hw⟩ : ∃ x, u21.alloc (.cells #[.int .i64 0, .slice none 0 0] 24) = x := ⟨_, rfl⟩
            rw [hw] at hS29 BG S69 S73 SU ⊢
            clear hb hw hq
            go_frame
            refine wpAnyH_1 7 rfl (by kernel_rfl) ?_
            have CM := mul_c HFP.out HSK.out.rm HSK.out.rQ HSK.out.rQ4 HSK.out.e2 u29 (some ⟨b73, 0, none⟩) 1 1 Q qn qc (by rw [HCM.out]; exact S73.out) (SQ.out.below hS29)
            rw [HCM.out] at CM
            refine wp_call [PV (-4) (some ⟨b73, 0, none⟩) 1 1, PV (LP.canon JQ).1 Q qn qc] rfl rfl eMulK rfl ((CM).mono ?_)
            rintro e u30 ⟨V, vn, vc, rfl, hs, hnw, hb⟩
            clear CM
            have hS30 : Below w11.heap.size w11 u30 := hS29.trans (hb.mono hS29.size)
            replace S69 := hide (S69.out.below hb)
            replace S73 := hide (S73.out.below hb)
            replace SU := hide (SU.out.below hb)
            replace BG := hide (BG.out.below hb BG.out.lt)
            have SV := hide hs
            clear hb hs
            refine ⟨_, rfl, hS30, ?_⟩
            go_frame
            refine wpAnyH_1 8 rfl (by kernel_rfl) ?_
            refine wp_call [PV (LP.canon P4).1 U un uc, PV (LP.canon Q4).1 V vn vc] rfl rfl eSubL rfl ((sk_sub HFP.out HSK.out.rP4 HSK.out.rQ4 HSK.out.rL HSK.out.e3 u30 U un uc V vn vc SU.out SV.out).mono ?_)
            rintro e u31 ⟨G, gn, gc, rfl, hs, hN, hb⟩
            dsimp only at hs ⊢
            have hS31 : Below w11.heap.size w11 u31 := hS30.trans (hb.mono hS30.size)
            have ne_bG : 0 < gn → ∀ ad, G = some ad → ad.block ≠ bG := fun h ad e => by have := hN h ad e; have := BG.out.lt; omega
            replace S69 := hide (S69.out.below hb)
            replace S73 := hide (S73.out.below hb)
            replace SU := hide (SU.out.below hb)
            replace BG := hide (BG.out.below hb BG.out.lt)
            replace SV := hide (SV.out.below hb)
            have SG := hide hs
            clear hb hs
            refine ⟨_, rfl, hS31, ?_⟩
            go_frame
            refine wpAnyH_tk 9 (v := .tuple #[PV (LP.canon L).1 G gn gc, .int .i64 0]) rfl (by kernel_rfl) (by kernel_rfl) (by kernel_rfl) (yi rfl fun w' hw' => gives_move (.inl rfl) rfl) hS31 ?_
            go_frame
            refine wpAnyH_tk 10 (v := PV (LP.canon L).1 G gn gc) rfl (by kernel_rfl) (by kernel_rfl) (by kernel_rfl) (yi rfl fun w' hw' => gives_extract rfl rfl rfl) hS31 ?_
            go_frame
            refine wpAnyH_tk 11 (v := .int .i64 0) rfl (by kernel_rfl) (by kernel_rfl) (by kernel_rfl) (yi rfl fun w' hw' => gives_extract rfl rfl rfl) hS31 ?_
            go_frame
            refine wpAnyH_1 13 rfl (by kernel_rfl) ?_
            have hS32 : Below w11.heap.size w11 (u31.setRow bG #[.int .i64 (LP.canon L).1, .slice G gn gc]) := Below.setRow_ hS31 g_bG _
            refine wp_storeRow rfl rfl rfl BG.out (by kernel_rfl) rfl (by kernel_rfl) ⟨hS32, ?_⟩
            replace SG := hide (SG.out.setRow_ ne_bG #[.int .i64 (LP.canon L).1, .slice G gn gc])
            have hbk2 : Blk (u31.setRow bG #[.int .i64 (LP.canon L).1, .slice G gn gc]) bG 24 #[.int .i64 (LP.canon L).1, .slice G gn gc] := setRow_heap _ _ _ _ _ _ BG.out
            replace BG := hide hbk2
            clear hbk2
            go_frame
            refine wpAnyH_tk 14 (v := .int .i64 0) rfl (by kernel_rfl) (by kernel_rfl) (by kernel_rfl) (yi rfl fun w' hw' => gives_move (.inr rfl) rfl) hS32 ?_
            go_frame
            refine wpAnyH_done (by kernel_rfl) (noPanic_mk ?_) _
            go_wp2_with fail
            go_meet
            exact ⟨bG, G, gn, gc, rfl, rfl, BG.out, SG.out, hS32⟩
        · have hS33 : Below w11.heap.size w11 (u20.alloc (.cells #[.int .i64 0, .slice none 0 0] 24)) := hS20.alloc hS20.size _
          have hb : Below u20.heap.size u20 (u20.alloc (.cells #[.int .i64 0, .slice none 0 0] 24)) := (Below.refl _ _).alloc (Nat.le_refl _) _
          have g_bG : w11.heap.size ≤ u20.heap.size := hS20.size
          replace S69 := hide (S69.out.below hb)
          replace S73 := hide (S73.out.below hb)
          have BG := hide (Blk.new u20 24 #[.int .i64 0, .slice none 0 0])
          refine wp_alloc (z := .agg #[.int .i64 0, .slice none 0 0]) (cs := #[.int .i64 0, .slice none 0 0]) rfl (by kernel_rfl) rfl ⟨hS33, ?_⟩
          obtain ⟨bG, hq⟩ : ∃ q, u20.heap.size = q := ⟨_, rfl⟩
          rw [hq] at BG g_bG  ⊢
          obtain ⟨u33, hw⟩ : ∃ x, u20.alloc (.cells #[.int .i64 0, .slice none 0 0] 24) = x := ⟨_, rfl⟩
          rw [hw] at hS33 BG S69 S73 ⊢
          clear hb hw hq
          go_frame
          refine wpAnyH_1 3 rfl (by kernel_rfl) ?_
          have CM := mul_c HFP.out HSK.out.r4 HSK.out.rP HSK.out.rP4 HSK.out.e1 u33 (some ⟨b69, 0, none⟩) 1 1 P pn pc (by rw [HC4.out]; exact S69.out) (SP.out.below hS33)
          rw [HC4.out] at CM
          refine wp_call [PV 4 (some ⟨b69, 0, none⟩) 1 1, PV (LP.canon JP).1 P pn pc] rfl rfl eMulK rfl ((CM).mono ?_)
          rintro e u34 ⟨U, un, uc, rfl, hs, hnw, hb⟩
          clear CM
          have hS34 : Below w11.heap.size w11 u34 := hS33.trans (hb.mono hS33.size)
          replace S69 := hide (S69.out.below hb)
          replace S73 := hide (S73.out.below hb)
          replace BG := hide (BG.out.below hb BG.out.lt)
          have SU := hide hs
          clear hb hs
          refine ⟨_, rfl, hS34, ?_⟩
          go_frame
          refine wpAnyH_1 7 rfl (by kernel_rfl) ?_
          have CM := mul_c HFP.out HSK.out.rm HSK.out.rQ HSK.out.rQ4 HSK.out.e2 u34 (some ⟨b73, 0, none⟩) 1 1 Q qn qc (by rw [HCM.out]; exact S73.out) (SQ.out.below hS34)
          rw [HCM.out] at CM
          refine wp_call [PV (-4) (some ⟨b73, 0, none⟩) 1 1, PV (LP.canon JQ).1 Q qn qc] rfl rfl eMulK rfl ((CM).mono ?_)
          rintro e u35 ⟨V, vn, vc, rfl, hs, hnw, hb⟩
          clear CM
          have hS35 : Below w11.heap.size w11 u35 := hS34.trans (hb.mono hS34.size)
          replace S69 := hide (S69.out.below hb)
          replace S73 := hide (S73.out.below hb)
          replace BG := hide (BG.out.below hb BG.out.lt)
          replace SU := hide (SU.out.below hb)
          have SV := hide hs
          clear hb hs
          refine ⟨_, rfl, hS35, ?_⟩
          go_frame
          refine wpAnyH_1 8 rfl (by kernel_rfl) ?_
          refine wp_call [PV (LP.canon P4).1 U un uc, PV (LP.canon Q4).1 V vn vc] rfl rfl eSubL rfl ((sk_sub HFP.out HSK.out.rP4 HSK.out.rQ4 HSK.out.rL HSK.out.e3 u35 U un uc V vn vc SU.out SV.out).mono ?_)
          rintro e u36 ⟨G, gn, gc, rfl, hs, hN, hb⟩
          dsimp only at hs ⊢
          have hS36 : Below w11.heap.size w11 u36 := hS35.trans (hb.mono hS35.size)
          have ne_bG : 0 < gn → ∀ ad, G = some ad → ad.block ≠ bG := fun h ad e => by have := hN h ad e; have := BG.out.lt; omega
          replace S69 := hide (S69.out.below hb)
          replace S73 := hide (S73.out.below hb)
          replace BG := hide (BG.out.below hb BG.out.lt)
          replace SU := hide (SU.out.below hb)
          replace SV := hide (SV.out.below hb)
          have SG := hide hs
          clear hb hs
          refine ⟨_, rfl, hS36, ?_⟩
          go_frame
          refine wpAnyH_tk 9 (v := .tuple #[PV (LP.canon L).1 G gn gc, .int .i64 0]) rfl (by kernel_rfl) (by kernel_rfl) (by kernel_rfl) (yi rfl fun w' hw' => gives_move (.inl rfl) rfl) hS36 ?_
          go_frame
          refine wpAnyH_tk 10 (v := PV (LP.canon L).1 G gn gc) rfl (by kernel_rfl) (by kernel_rfl) (by kernel_rfl) (yi rfl fun w' hw' => gives_extract rfl rfl rfl) hS36 ?_
          go_frame
          refine wpAnyH_tk 11 (v := .int .i64 0) rfl (by kernel_rfl) (by kernel_rfl) (by kernel_rfl) (yi rfl fun w' hw' => gives_extract rfl rfl rfl) hS36 ?_
          go_frame
          refine wpAnyH_1 13 rfl (by kernel_rfl) ?_
          have hS37 : Below w11.heap.size w11 (u36.setRow bG #[.int .i64 (LP.canon L).1, .slice G gn gc]) := Below.setRow_ hS36 g_bG _
          refine wp_storeRow rfl rfl rfl BG.out (by kernel_rfl) rfl (by kernel_rfl) ⟨hS37, ?_⟩
          replace SG := hide (SG.out.setRow_ ne_bG #[.int .i64 (LP.canon L).1, .slice G gn gc])
          have hbk2 : Blk (u36.setRow bG #[.int .i64 (LP.canon L).1, .slice G gn gc]) bG 24 #[.int .i64 (LP.canon L).1, .slice G gn gc] := setRow_heap _ _ _ _ _ _ BG.out
          replace BG := hide hbk2
          clear hbk2
          go_frame
          refine wpAnyH_tk 14 (v := .int .i64 0) rfl (by kernel_rfl) (by kernel_rfl) (by kernel_rfl) (yi rfl fun w' hw' => gives_move (.inr rfl) rfl) hS37 ?_
          go_frame
          refine wpAnyH_done (by kernel_rfl) (noPanic_mk ?_) _
          go_wp2_with fail
          go_meet
          exact ⟨bG, G, gn, gc, rfl, rfl, BG.out, SG.out, hS37⟩
      · have hS38 : Below w11.heap.size w11 (u1.alloc (.cells #[.int .i64 0, .slice none 0 0] 24)) := hS1.alloc hS1.size _
        have hb : Below u1.heap.size u1 (u1.alloc (.cells #[.int .i64 0, .slice none 0 0] 24)) := (Below.refl _ _).alloc (Nat.le_refl _) _
        have g_bG : w11.heap.size ≤ u1.heap.size := hS1.size
        replace S69 := hide (S69.out.below hb)
        have BG := hide (Blk.new u1 24 #[.int .i64 0, .slice none 0 0])
        refine wp_alloc (z := .agg #[.int .i64 0, .slice none 0 0]) (cs := #[.int .i64 0, .slice none 0 0]) rfl (by kernel_rfl) rfl ⟨hS38, ?_⟩
        obtain ⟨bG, hq⟩ : ∃ q, u1.heap.size = q := ⟨_, rfl⟩
        rw [hq] at BG g_bG  ⊢
        obtain ⟨u38, hw⟩ : ∃ x, u1.alloc (.cells #[.int .i64 0, .slice none 0 0] 24) = x := ⟨_, rfl⟩
        rw [hw] at hS38 BG S69 ⊢
        clear hb hw hq
        go_frame
        refine wpAnyH_2 3 4 rfl rfl (by kernel_rfl) ?_ ?_
        · have CM := mul_c HFP.out HSK.out.r4 HSK.out.rP HSK.out.rP4 HSK.out.e1 u38 (some ⟨b69, 0, none⟩) 1 1 P pn pc (by rw [HC4.out]; exact S69.out) (SP.out.below hS38)
          rw [HC4.out] at CM
          refine wp_call [PV 4 (some ⟨b69, 0, none⟩) 1 1, PV (LP.canon JP).1 P pn pc] rfl rfl eMulK rfl ((CM).mono ?_)
          rintro e u39 ⟨U, un, uc, rfl, hs, hnw, hb⟩
          clear CM
          have hS39 : Below w11.heap.size w11 u39 := hS38.trans (hb.mono hS38.size)
          replace S69 := hide (S69.out.below hb)
          replace BG := hide (BG.out.below hb BG.out.lt)
          have SU := hide hs
          clear hb hs
          refine ⟨_, rfl, hS39, ?_⟩
          go_frame
          refine wpAnyH_1 4 rfl (by kernel_rfl) ?_
          have hb : Below u39.heap.size u39 (u39.alloc (.cells #[.int .i64 1] 3)) := (Below.refl _ _).alloc (Nat.le_refl _) _
          have hl : SL (u39.alloc (.cells #[.int .i64 1] 3)) (some ⟨u39.heap.size, 0, none⟩) 1 1 [1] := SL.lit u39 [1] (by decide) rfl rfl
          replace S69 := hide (S69.out.below hb)
          replace BG := hide (BG.out.below hb BG.out.lt)
          replace SU := hide (SU.out.below hb)
          have hS40 : Below w11.heap.size w11 (u39.alloc (.cells #[.int .i64 1] 3)) := hS39.trans (hb.mono hS39.size)
          refine wp_buildSlice_at (cells := #[.int .i64 1]) (l := [(0, .const (.int .i64 1))]) i0 _ 1 [(0, .int .i64 1)] rfl Try.underlying22 HI0.out HZ0.out HZ1.out (by decide) (by decide) rfl (by simp [Instr.fill, Value.cells, show Array.range (1 * 1) = #[0] from rfl]) ⟨hS40, ?_⟩
          obtain ⟨b73, hq⟩ : ∃ q, u39.heap.size = q := ⟨_, rfl⟩
          obtain ⟨u40, hw⟩ : ∃ x, u39.alloc (.cells #[.int .i64 1] 3) = x := ⟨_, rfl⟩
          rw [hw] at hl hS40 S69 BG SU ⊢
          rw [hq] at hl ⊢
          have S73 := hide hl
          clear hb hq hw hl
          go_frame
          refine wpAnyH_tk 5 (v := PV (-4) (some ⟨b73, 0, none⟩) 1 1) rfl (by kernel_rfl) (by kernel_rfl) (by kernel_rfl) (yi rfl fun w' hw' => gives_build [(0, .int .i64 (-4)), (1, .slice (some ⟨b73, 0, none⟩) 1 1)] rfl rfl (by kernel_rfl)) hS40 ?_
          go_frame
          refine wpAnyH_1 7 rfl (by kernel_rfl) ?_
          have CM := mul_c HFP.out HSK.out.rm HSK.out.rQ HSK.out.rQ4 HSK.out.e2 u40 (some ⟨b73, 0, none⟩) 1 1 Q qn qc (by rw [HCM.out]; exact S73.out) (SQ.out.below hS40)
          rw [HCM.out] at CM
          refine wp_call [PV (-4) (some ⟨b73, 0, none⟩) 1 1, PV (LP.canon JQ).1 Q qn qc] rfl rfl eMulK rfl ((CM).mono ?_)
          rintro e u41 ⟨V, vn, vc, rfl, hs, hnw, hb⟩
          clear CM
          have hS41 : Below w11.heap.size w11 u41 := hS40.trans (hb.mono hS40.size)
          replace S69 := hide (S69.out.below hb)
          replace BG := hide (BG.out.below hb BG.out.lt)
          replace SU := hide (SU.out.below hb)
          replace S73 := hide (S73.out.below hb)
          have SV := hide hs
          clear hb hs
          refine ⟨_, rfl, hS41, ?_⟩
          go_frame
          refine wpAnyH_1 8 rfl (by kernel_rfl) ?_
          refine wp_call [PV (LP.canon P4).1 U un uc, PV (LP.canon Q4).1 V vn vc] rfl rfl eSubL rfl ((sk_sub HFP.out HSK.out.rP4 HSK.out.rQ4 HSK.out.rL HSK.out.e3 u41 U un uc V vn vc SU.out SV.out).mono ?_)
          rintro e u42 ⟨G, gn, gc, rfl, hs, hN, hb⟩
          dsimp only at hs ⊢
          have hS42 : Below w11.heap.size w11 u42 := hS41.trans (hb.mono hS41.size)
          have ne_bG : 0 < gn → ∀ ad, G = some ad → ad.block ≠ bG := fun h ad e => by have := hN h ad e; have := BG.out.lt; omega
          replace S69 := hide (S69.out.below hb)
          replace BG := hide (BG.out.below hb BG.out.lt)
          replace SU := hide (SU.out.below hb)
          replace S73 := hide (S73.out.below hb)
          replace SV := hide (SV.out.below hb)
          have SG := hide hs
          clear hb hs
          refine ⟨_, rfl, hS42, ?_⟩
          go_frame
          refine wpAnyH_tk 9 (v := .tuple #[PV (LP.canon L).1 G gn gc, .int .i64 0]) rfl (by kernel_rfl) (by kernel_rfl) (by kernel_rfl) (yi rfl fun w' hw' => gives_move (.inl rfl) rfl) hS42 ?_
          go_frame
          refine wpAnyH_tk 10 (v := PV (LP.canon L).1 G gn gc) rfl (by kernel_rfl) (by kernel_rfl) (by kernel_rfl) (yi rfl fun w' hw' => gives_extract rfl rfl rfl) hS42 ?_
          go_frame
          refine wpAnyH_tk 11 (v := .int .i64 0) rfl (by kernel_rfl) (by kernel_rfl) (by kernel_rfl) (yi rfl fun w' hw' => gives_extract rfl rfl rfl) hS42 ?_
          go_frame
          refine wpAnyH_1 13 rfl (by kernel_rfl) ?_
          have hS43 : Below w11.heap.size w11 (u42.setRow bG #[.int .i64 (LP.canon L).1, .slice G gn gc]) := Below.setRow_ hS42 g_bG _
          refine wp_storeRow rfl rfl rfl BG.out (by kernel_rfl) rfl (by kernel_rfl) ⟨hS43, ?_⟩
          replace SG := hide (SG.out.setRow_ ne_bG #[.int .i64 (LP.canon L).1, .slice G gn gc])
          have hbk2 : Blk (u42.setRow bG #[.int .i64 (LP.canon L).1, .slice G gn gc]) bG 24 #[.int .i64 (LP.canon L).1, .slice G gn gc] := setRow_heap _ _ _ _ _ _ BG.out
          replace BG := hide hbk2
          clear hbk2
          go_frame
          refine wpAnyH_tk 14 (v := .int .i64 0) rfl (by kernel_rfl) (by kernel_rfl) (by kernel_rfl) (yi rfl fun w' hw' => gives_move (.inr rfl) rfl) hS43 ?_
          go_frame
          refine wpAnyH_done (by kernel_rfl) (noPanic_mk ?_) _
          go_wp2_with fail
          go_meet
          exact ⟨bG, G, gn, gc, rfl, rfl, BG.out, SG.out, hS43⟩
        · have hb : Below u38.heap.size u38 (u38.alloc (.cells #[.int .i64 1] 3)) := (Below.refl _ _).alloc (Nat.le_refl _) _
          have hl : SL (u38.alloc (.cells #[.int .i64 1] 3)) (some ⟨u38.heap.size, 0, none⟩) 1 1 [1] := SL.lit u38 [1] (by decide) rfl rfl
          replace S69 := hide (S69.out.below hb)
          replace BG := hide (BG.out.below hb BG.out.lt)
          have hS44 : Below w11.heap.size w11 (u38.alloc (.cells #[.int .i64 1] 3)) := hS38.trans (hb.mono hS38.size)
          refine wp_buildSlice_at (cells := #[.int .i64 1]) (l := [(0, .const (.int .i64 1))]) i0 _ 1 [(0, .int .i64 1)] rfl Try.underlying22 HI0.out HZ0.out HZ1.out (by decide) (by decide) rfl (by simp [Instr.fill, Value.cells, show Array.range (1 * 1) = #[0] from rfl]) ⟨hS44, ?_⟩
          obtain ⟨b73, hq⟩ : ∃ q, u38.heap.size = q := ⟨_, rfl⟩
          obtain ⟨u44, hw⟩ : ∃ x, u38.alloc (.cells #[.int .i64 1] 3) = x := ⟨_, rfl⟩
          rw [hw] at hl hS44 S69 BG ⊢
          rw [hq] at hl ⊢
          have S73 := hide hl
          clear hb hq hw hl
          go_frame
          refine wpAnyH_tk 5 (v := PV (-4) (some ⟨b73, 0, none⟩) 1 1) rfl (by kernel_rfl) (by kernel_rfl) (by kernel_rfl) (yi rfl fun w' hw' => gives_build [(0, .int .i64 (-4)), (1, .slice (some ⟨b73, 0, none⟩) 1 1)] rfl rfl (by kernel_rfl)) hS44 ?_
          go_frame
          refine wpAnyH_1 3 rfl (by kernel_rfl) ?_
          have CM := mul_c HFP.out HSK.out.r4 HSK.out.rP HSK.out.rP4 HSK.out.e1 u44 (some ⟨b69, 0, none⟩) 1 1 P pn pc (by rw [HC4.out]; exact S69.out) (SP.out.below hS44)
          rw [HC4.out] at CM
          refine wp_call [PV 4 (some ⟨b69, 0, none⟩) 1 1, PV (LP.canon JP).1 P pn pc] rfl rfl eMulK rfl ((CM).mono ?_)
          rintro e u45 ⟨U, un, uc, rfl, hs, hnw, hb⟩
          clear CM
          have hS45 : Below w11.heap.size w11 u45 := hS44.trans (hb.mono hS44.size)
          replace S69 := hide (S69.out.below hb)
          replace BG := hide (BG.out.below hb BG.out.lt)
          replace S73 := hide (S73.out.below hb)
          have SU := hide hs
          clear hb hs
          refine ⟨_, rfl, hS45, ?_⟩
          go_frame
          refine wpAnyH_1 7 rfl (by kernel_rfl) ?_
          have CM := mul_c HFP.out HSK.out.rm HSK.out.rQ HSK.out.rQ4 HSK.out.e2 u45 (some ⟨b73, 0, none⟩) 1 1 Q qn qc (by rw [HCM.out]; exact S73.out) (SQ.out.below hS45)
          rw [HCM.out] at CM
          refine wp_call [PV (-4) (some ⟨b73, 0, none⟩) 1 1, PV (LP.canon JQ).1 Q qn qc] rfl rfl eMulK rfl ((CM).mono ?_)
          rintro e u46 ⟨V, vn, vc, rfl, hs, hnw, hb⟩
          clear CM
          have hS46 : Below w11.heap.size w11 u46 := hS45.trans (hb.mono hS45.size)
          replace S69 := hide (S69.out.below hb)
          replace BG := hide (BG.out.below hb BG.out.lt)
          replace S73 := hide (S73.out.below hb)
          replace SU := hide (SU.out.below hb)
          have SV := hide hs
          clear hb hs
          refine ⟨_, rfl, hS46, ?_⟩
          go_frame
          refine wpAnyH_1 8 rfl (by kernel_rfl) ?_
          refine wp_call [PV (LP.canon P4).1 U un uc, PV (LP.canon Q4).1 V vn vc] rfl rfl eSubL rfl ((sk_sub HFP.out HSK.out.rP4 HSK.out.rQ4 HSK.out.rL HSK.out.e3 u46 U un uc V vn vc SU.out SV.out).mono ?_)
          rintro e u47 ⟨G, gn, gc, rfl, hs, hN, hb⟩
          dsimp only at hs ⊢
          have hS47 : Below w11.heap.size w11 u47 := hS46.trans (hb.mono hS46.size)
          have ne_bG : 0 < gn → ∀ ad, G = some ad → ad.block ≠ bG := fun h ad e => by have := hN h ad e; have := BG.out.lt; omega
          replace S69 := hide (S69.out.below hb)
          replace BG := hide (BG.out.below hb BG.out.lt)
          replace S73 := hide (S73.out.below hb)
          replace SU := hide (SU.out.below hb)
          replace SV := hide (SV.out.below hb)
          have SG := hide hs
          clear hb hs
          refine ⟨_, rfl, hS47, ?_⟩
          go_frame
          refine wpAnyH_tk 9 (v := .tuple #[PV (LP.canon L).1 G gn gc, .int .i64 0]) rfl (by kernel_rfl) (by kernel_rfl) (by kernel_rfl) (yi rfl fun w' hw' => gives_move (.inl rfl) rfl) hS47 ?_
          go_frame
          refine wpAnyH_tk 10 (v := PV (LP.canon L).1 G gn gc) rfl (by kernel_rfl) (by kernel_rfl) (by kernel_rfl) (yi rfl fun w' hw' => gives_extract rfl rfl rfl) hS47 ?_
          go_frame
          refine wpAnyH_tk 11 (v := .int .i64 0) rfl (by kernel_rfl) (by kernel_rfl) (by kernel_rfl) (yi rfl fun w' hw' => gives_extract rfl rfl rfl) hS47 ?_
          go_frame
          refine wpAnyH_1 13 rfl (by kernel_rfl) ?_
          have hS48 : Below w11.heap.size w11 (u47.setRow bG #[.int .i64 (LP.canon L).1, .slice G gn gc]) := Below.setRow_ hS47 g_bG _
          refine wp_storeRow rfl rfl rfl BG.out (by kernel_rfl) rfl (by kernel_rfl) ⟨hS48, ?_⟩
          replace SG := hide (SG.out.setRow_ ne_bG #[.int .i64 (LP.canon L).1, .slice G gn gc])
          have hbk2 : Blk (u47.setRow bG #[.int .i64 (LP.canon L).1, .slice G gn gc]) bG 24 #[.int .i64 (LP.canon L).1, .slice G gn gc] := setRow_heap _ _ _ _ _ _ BG.out
          replace BG := hide hbk2
          clear hbk2
          go_frame
          refine wpAnyH_tk 14 (v := .int .i64 0) rfl (by kernel_rfl) (by kernel_rfl) (by kernel_rfl) (yi rfl fun w' hw' => gives_move (.inr rfl) rfl) hS48 ?_
          go_frame
          refine wpAnyH_done (by kernel_rfl) (noPanic_mk ?_) _
          go_wp2_with fail
          go_meet
          exact ⟨bG, G, gn, gc, rfl, rfl, BG.out, SG.out, hS48⟩
    · have hb : Below w11.drew.heap.size w11.drew (w11.drew.alloc (.cells #[.int .i64 1] 3)) := (Below.refl _ _).alloc (Nat.le_refl _) _
      have hl : SL (w11.drew.alloc (.cells #[.int .i64 1] 3)) (some ⟨w11.drew.heap.size, 0, none⟩) 1 1 [1] := SL.lit w11.drew [1] (by decide) rfl rfl
      have hS49 : Below w11.heap.size w11 (w11.drew.alloc (.cells #[.int .i64 1] 3)) := hS0.trans (hb.mono hS0.size)
      refine wp_buildSlice_at (cells := #[.int .i64 1]) (l := [(0, .const (.int .i64 1))]) i0 _ 1 [(0, .int .i64 1)] rfl Try.underlying22 HI0.out HZ0.out HZ1.out (by decide) (by decide) rfl (by simp [Instr.fill, Value.cells, show Array.range (1 * 1) = #[0] from rfl]) ⟨hS49, ?_⟩
      obtain ⟨b73, hq⟩ : ∃ q, w11.drew.heap.size = q := ⟨_, rfl⟩
      obtain ⟨u49, hw⟩ : ∃ x, w11.drew.alloc (.cells #[.int .i64 1] 3) = x := ⟨_, rfl⟩
      rw [hw] at hl hS49  ⊢
      rw [hq] at hl ⊢
      have S73 := hide hl
      clear hb hq hw hl
      go_frame
      refine wpAnyH_tk 5 (v := PV (-4) (some ⟨b73, 0, none⟩) 1 1) rfl (by kernel_rfl) (by kernel_rfl) (by kernel_rfl) (yi rfl fun w' hw' => gives_build [(0, .int .i64 (-4)), (1, .slice (some ⟨b73, 0, none⟩) 1 1)] rfl rfl (by kernel_rfl)) hS49 ?_
      go_frame
      refine wpAnyH_2 0 12 rfl rfl (by kernel_rfl) ?_ ?_
      · have hb : Below u49.heap.size u49 (u49.alloc (.cells #[.int .i64 1] 3)) := (Below.refl _ _).alloc (Nat.le_refl _) _
        have hl : SL (u49.alloc (.cells #[.int .i64 1] 3)) (some ⟨u49.heap.size, 0, none⟩) 1 1 [1] := SL.lit u49 [1] (by decide) rfl rfl
        replace S73 := hide (S73.out.below hb)
        have hS50 : Below w11.heap.size w11 (u49.alloc (.cells #[.int .i64 1] 3)) := hS49.trans (hb.mono hS49.size)
        refine wp_buildSlice_at (cells := #[.int .i64 1]) (l := [(0, .const (.int .i64 1))]) i0 _ 1 [(0, .int .i64 1)] rfl Try.underlying22 HI0.out HZ0.out HZ1.out (by decide) (by decide) rfl (by simp [Instr.fill, Value.cells, show Array.range (1 * 1) = #[0] from rfl]) ⟨hS50, ?_⟩
        obtain ⟨b69, hq⟩ : ∃ q, u49.heap.size = q := ⟨_, rfl⟩
        obtain ⟨u50, hw⟩ : ∃ x, u49.alloc (.cells #[.int .i64 1] 3) = x := ⟨_, rfl⟩
        rw [hw] at hl hS50 S73 ⊢
        rw [hq] at hl ⊢
        have S69 := hide hl
        clear hb hq hw hl
        go_frame
        refine wpAnyH_tk 1 (v := PV 4 (some ⟨b69, 0, none⟩) 1 1) rfl (by kernel_rfl) (by kernel_rfl) (by kernel_rfl) (yi rfl fun w' hw' => gives_build [(0, .int .i64 4), (1, .slice (some ⟨b69, 0, none⟩) 1 1)] rfl rfl (by kernel_rfl)) hS50 ?_
        go_frame
        refine wpAnyH_2 3 12 rfl rfl (by kernel_rfl) ?_ ?_
        · have CM := mul_c HFP.out HSK.out.r4 HSK.out.rP HSK.out.rP4 HSK.out.e1 u50 (some ⟨b69, 0, none⟩) 1 1 P pn pc (by rw [HC4.out]; exact S69.out) (SP.out.below hS50)
          rw [HC4.out] at CM
          refine wp_call [PV 4 (some ⟨b69, 0, none⟩) 1 1, PV (LP.canon JP).1 P pn pc] rfl rfl eMulK rfl ((CM).mono ?_)
          rintro e u51 ⟨U, un, uc, rfl, hs, hnw, hb⟩
          clear CM
          have hS51 : Below w11.heap.size w11 u51 := hS50.trans (hb.mono hS50.size)
          replace S73 := hide (S73.out.below hb)
          replace S69 := hide (S69.out.below hb)
          have SU := hide hs
          clear hb hs
          refine ⟨_, rfl, hS51, ?_⟩
          go_frame
          refine wpAnyH_2 7 12 rfl rfl (by kernel_rfl) ?_ ?_
          · have CM := mul_c HFP.out HSK.out.rm HSK.out.rQ HSK.out.rQ4 HSK.out.e2 u51 (some ⟨b73, 0, none⟩) 1 1 Q qn qc (by rw [HCM.out]; exact S73.out) (SQ.out.below hS51)
            rw [HCM.out] at CM
            refine wp_call [PV (-4) (some ⟨b73, 0, none⟩) 1 1, PV (LP.canon JQ).1 Q qn qc] rfl rfl eMulK rfl ((CM).mono ?_)
            rintro e u52 ⟨V, vn, vc, rfl, hs, hnw, hb⟩
            clear CM
            have hS52 : Below w11.heap.size w11 u52 := hS51.trans (hb.mono hS51.size)
            replace S73 := hide (S73.out.below hb)
            replace S69 := hide (S69.out.below hb)
            replace SU := hide (SU.out.below hb)
            have SV := hide hs
            clear hb hs
            refine ⟨_, rfl, hS52, ?_⟩
            go_frame
            refine wpAnyH_2 8 12 rfl rfl (by kernel_rfl) ?_ ?_
            · refine wp_call [PV (LP.canon P4).1 U un uc, PV (LP.canon Q4).1 V vn vc] rfl rfl eSubL rfl ((sk_sub HFP.out HSK.out.rP4 HSK.out.rQ4 HSK.out.rL HSK.out.e3 u52 U un uc V vn vc SU.out SV.out).mono ?_)
              rintro e u53 ⟨G, gn, gc, rfl, hs, hN, hb⟩
              dsimp only at hs ⊢
              have hS53 : Below w11.heap.size w11 u53 := hS52.trans (hb.mono hS52.size)
              replace S73 := hide (S73.out.below hb)
              replace S69 := hide (S69.out.below hb)
              replace SU := hide (SU.out.below hb)
              replace SV := hide (SV.out.below hb)
              have SG := hide hs
              clear hb hs
              refine ⟨_, rfl, hS53, ?_⟩
              go_frame
              refine wpAnyH_tk 9 (v := .tuple #[PV (LP.canon L).1 G gn gc, .int .i64 0]) rfl (by kernel_rfl) (by kernel_rfl) (by kernel_rfl) (yi rfl fun w' hw' => gives_move (.inl rfl) rfl) hS53 ?_
              go_frame
              refine wpAnyH_tk 10 (v := PV (LP.canon L).1 G gn gc) rfl (by kernel_rfl) (by kernel_rfl) (by kernel_rfl) (yi rfl fun w' hw' => gives_extract rfl rfl rfl) hS53 ?_
              go_frame
              refine wpAnyH_tk 11 (v := .int .i64 0) rfl (by kernel_rfl) (by kernel_rfl) (by kernel_rfl) (yi rfl fun w' hw' => gives_extract rfl rfl rfl) hS53 ?_
              go_frame
              refine wpAnyH_1 12 rfl (by kernel_rfl) ?_
              have hS54 : Below w11.heap.size w11 (u53.alloc (.cells #[.int .i64 0, .slice none 0 0] 24)) := hS53.alloc hS53.size _
              have hb : Below u53.heap.size u53 (u53.alloc (.cells #[.int .i64 0, .slice none 0 0] 24)) := (Below.refl _ _).alloc (Nat.le_refl _) _
              have g_bG : w11.heap.size ≤ u53.heap.size := hS53.size
              have ne_bG : 0 < gn → ∀ ad, G = some ad → ad.block ≠ u53.heap.size := fun h ad e => by obtain ⟨ad2, e2, hl, _⟩ := SG.out.il.mem h; rw [e] at e2; cases e2; omega
              replace S73 := hide (S73.out.below hb)
              replace S69 := hide (S69.out.below hb)
              replace SU := hide (SU.out.below hb)
              replace SV := hide (SV.out.below hb)
              replace SG := hide (SG.out.below hb)
              have BG := hide (Blk.new u53 24 #[.int .i64 0, .slice none 0 0])
              refine wp_alloc (z := .agg #[.int .i64 0, .slice none 0 0]) (cs := #[.int .i64 0, .slice none 0 0]) rfl (by kernel_rfl) rfl ⟨hS54, ?_⟩
              obtain ⟨bG, hq⟩ : ∃ q, u53.heap.size = q := ⟨_, rfl⟩
              rw [hq] at BG g_bG ne_bG ⊢
              obtain ⟨u54, hw⟩ : ∃ x, u53.alloc (.cells #[.int .i64 0, .slice none 0 0] 24) = x := ⟨_, rfl⟩
              rw [hw] at hS54 BG S73 S69 SU SV SG ⊢
              clear hb hw hq
              go_frame
              refine wpAnyH_1 13 rfl (by kernel_rfl) ?_
              have hS55 : Below w11.heap.size w11 (u54.setRow bG #[.int .i64 (LP.canon L).1, .slice G gn gc]) := Below.setRow_ hS54 g_bG _
              refine wp_storeRow rfl rfl rfl BG.out (by kernel_rfl) rfl (by kernel_rfl) ⟨hS55, ?_⟩
              replace SG := hide (SG.out.setRow_ ne_bG #[.int .i64 (LP.canon L).1, .slice G gn gc])
              have hbk2 : Blk (u54.setRow bG #[.int .i64 (LP.canon L).1, .slice G gn gc]) bG 24 #[.int .i64 (LP.canon L).1, .slice G gn gc] := setRow_heap _ _ _ _ _ _ BG.out
              replace BG := hide hbk2
              clear hbk2
              go_frame
              refine wpAnyH_tk 14 (v := .int .i64 0) rfl (by kernel_rfl) (by kernel_rfl) (by kernel_rfl) (yi rfl fun w' hw' => gives_move (.inr rfl) rfl) hS55 ?_
              go_frame
              refine wpAnyH_done (by kernel_rfl) (noPanic_mk ?_) _
              go_wp2_with fail
              go_meet
              exact ⟨bG, G, gn, gc, rfl, rfl, BG.out, SG.out, hS55⟩
            · have hS56 : Below w11.heap.size w11 (u52.alloc (.cells #[.int .i64 0, .slice none 0 0] 24)) := hS52.alloc hS52.size _
              have hb : Below u52.heap.size u52 (u52.alloc (.cells #[.int .i64 0, .slice none 0 0] 24)) := (Below.refl _ _).alloc (Nat.le_refl _) _
              have g_bG : w11.heap.size ≤ u52.heap.size := hS52.size
              replace S73 := hide (S73.out.below hb)
              replace S69 := hide (S69.out.below hb)
              replace SU := hide (SU.out.below hb)
              replace SV := hide (SV.out.below hb)
              have BG := hide (Blk.new u52 24 #[.int .i64 0, .slice none 0 0])
              refine wp_alloc (z := .agg #[.int .i64 0, .slice none 0 0]) (cs := #[.int .i64 0, .slice none 0 0]) rfl (by kernel_rfl) rfl ⟨hS56, ?_⟩
              obtain ⟨bG, hq⟩ : ∃ q, u52.heap.size = q := ⟨_, rfl⟩
              rw [hq] at BG g_bG  ⊢
              obtain ⟨u56, hw⟩ : ∃ x, u52.alloc (.cells #[.int .i64 0, .slice none 0 0] 24) = x := ⟨_, rfl⟩
              rw [hw] at hS56 BG S73 S69 SU SV ⊢
              clear hb hw hq
              go_frame
              refine wpAnyH_1 8 rfl (by kernel_rfl) ?_
              refine wp_call [PV (LP.canon P4).1 U un uc, PV (LP.canon Q4).1 V vn vc] rfl rfl eSubL rfl ((sk_sub HFP.out HSK.out.rP4 HSK.out.rQ4 HSK.out.rL HSK.out.e3 u56 U un uc V vn vc SU.out SV.out).mono ?_)
              rintro e u57 ⟨G, gn, gc, rfl, hs, hN, hb⟩
              dsimp only at hs ⊢
              have hS57 : Below w11.heap.size w11 u57 := hS56.trans (hb.mono hS56.size)
              have ne_bG : 0 < gn → ∀ ad, G = some ad → ad.block ≠ bG := fun h ad e => by have := hN h ad e; have := BG.out.lt; omega
              replace S73 := hide (S73.out.below hb)
              replace S69 := hide (S69.out.below hb)
              replace SU := hide (SU.out.below hb)
              replace SV := hide (SV.out.below hb)
              replace BG := hide (BG.out.below hb BG.out.lt)
              have SG := hide hs
              clear hb hs
              refine ⟨_, rfl, hS57, ?_⟩
              go_frame
              refine wpAnyH_tk 9 (v := .tuple #[PV (LP.canon L).1 G gn gc, .int .i64 0]) rfl (by kernel_rfl) (by kernel_rfl) (by kernel_rfl) (yi rfl fun w' hw' => gives_move (.inl rfl) rfl) hS57 ?_
              go_frame
              refine wpAnyH_tk 10 (v := PV (LP.canon L).1 G gn gc) rfl (by kernel_rfl) (by kernel_rfl) (by kernel_rfl) (yi rfl fun w' hw' => gives_extract rfl rfl rfl) hS57 ?_
              go_frame
              refine wpAnyH_tk 11 (v := .int .i64 0) rfl (by kernel_rfl) (by kernel_rfl) (by kernel_rfl) (yi rfl fun w' hw' => gives_extract rfl rfl rfl) hS57 ?_
              go_frame
              refine wpAnyH_1 13 rfl (by kernel_rfl) ?_
              have hS58 : Below w11.heap.size w11 (u57.setRow bG #[.int .i64 (LP.canon L).1, .slice G gn gc]) := Below.setRow_ hS57 g_bG _
              refine wp_storeRow rfl rfl rfl BG.out (by kernel_rfl) rfl (by kernel_rfl) ⟨hS58, ?_⟩
              replace SG := hide (SG.out.setRow_ ne_bG #[.int .i64 (LP.canon L).1, .slice G gn gc])
              have hbk2 : Blk (u57.setRow bG #[.int .i64 (LP.canon L).1, .slice G gn gc]) bG 24 #[.int .i64 (LP.canon L).1, .slice G gn gc] := setRow_heap _ _ _ _ _ _ BG.out
              replace BG := hide hbk2
              clear hbk2
              go_frame
              refine wpAnyH_tk 14 (v := .int .i64 0) rfl (by kernel_rfl) (by kernel_rfl) (by kernel_rfl) (yi rfl fun w' hw' => gives_move (.inr rfl) rfl) hS58 ?_
              go_frame
              refine wpAnyH_done (by kernel_rfl) (noPanic_mk ?_) _
              go_wp2_with fail
              go_meet
              exact ⟨bG, G, gn, gc, rfl, rfl, BG.out, SG.out, hS58⟩
          · have hS59 : Below w11.heap.size w11 (u51.alloc (.cells #[.int .i64 0, .slice none 0 0] 24)) := hS51.alloc hS51.size _
            have hb : Below u51.heap.size u51 (u51.alloc (.cells #[.int .i64 0, .slice none 0 0] 24)) := (Below.refl _ _).alloc (Nat.le_refl _) _
            have g_bG : w11.heap.size ≤ u51.heap.size := hS51.size
            replace S73 := hide (S73.out.below hb)
            replace S69 := hide (S69.out.below hb)
            replace SU := hide (SU.out.below hb)
            have BG := hide (Blk.new u51 24 #[.int .i64 0, .slice none 0 0])
            refine wp_alloc (z := .agg #[.int .i64 0, .slice none 0 0]) (cs := #[.int .i64 0, .slice none 0 0]) rfl (by kernel_rfl) rfl ⟨hS59, ?_⟩
            obtain ⟨bG, hq⟩ : ∃ q, u51.heap.size = q := ⟨_, rfl⟩
            rw [hq] at BG g_bG  ⊢
            obtain ⟨u59, hw⟩ : ∃ x, u51.alloc (.cells #[.int .i64 0, .slice none 0 0] 24) = x := ⟨_, rfl⟩
            rw [hw] at hS59 BG S73 S69 SU ⊢
            clear hb hw hq
            go_frame
            refine wpAnyH_1 7 rfl (by kernel_rfl) ?_
            have CM := mul_c HFP.out HSK.out.rm HSK.out.rQ HSK.out.rQ4 HSK.out.e2 u59 (some ⟨b73, 0, none⟩) 1 1 Q qn qc (by rw [HCM.out]; exact S73.out) (SQ.out.below hS59)
            rw [HCM.out] at CM
            refine wp_call [PV (-4) (some ⟨b73, 0, none⟩) 1 1, PV (LP.canon JQ).1 Q qn qc] rfl rfl eMulK rfl ((CM).mono ?_)
            rintro e u60 ⟨V, vn, vc, rfl, hs, hnw, hb⟩
            clear CM
            have hS60 : Below w11.heap.size w11 u60 := hS59.trans (hb.mono hS59.size)
            replace S73 := hide (S73.out.below hb)
            replace S69 := hide (S69.out.below hb)
            replace SU := hide (SU.out.below hb)
            replace BG := hide (BG.out.below hb BG.out.lt)
            have SV := hide hs
            clear hb hs
            refine ⟨_, rfl, hS60, ?_⟩
            go_frame
            refine wpAnyH_1 8 rfl (by kernel_rfl) ?_
            refine wp_call [PV (LP.canon P4).1 U un uc, PV (LP.canon Q4).1 V vn vc] rfl rfl eSubL rfl ((sk_sub HFP.out HSK.out.rP4 HSK.out.rQ4 HSK.out.rL HSK.out.e3 u60 U un uc V vn vc SU.out SV.out).mono ?_)
            rintro e u61 ⟨G, gn, gc, rfl, hs, hN, hb⟩
            dsimp only at hs ⊢
            have hS61 : Below w11.heap.size w11 u61 := hS60.trans (hb.mono hS60.size)
            have ne_bG : 0 < gn → ∀ ad, G = some ad → ad.block ≠ bG := fun h ad e => by have := hN h ad e; have := BG.out.lt; omega
            replace S73 := hide (S73.out.below hb)
            replace S69 := hide (S69.out.below hb)
            replace SU := hide (SU.out.below hb)
            replace BG := hide (BG.out.below hb BG.out.lt)
            replace SV := hide (SV.out.below hb)
            have SG := hide hs
            clear hb hs
            refine ⟨_, rfl, hS61, ?_⟩
            go_frame
            refine wpAnyH_tk 9 (v := .tuple #[PV (LP.canon L).1 G gn gc, .int .i64 0]) rfl (by kernel_rfl) (by kernel_rfl) (by kernel_rfl) (yi rfl fun w' hw' => gives_move (.inl rfl) rfl) hS61 ?_
            go_frame
            refine wpAnyH_tk 10 (v := PV (LP.canon L).1 G gn gc) rfl (by kernel_rfl) (by kernel_rfl) (by kernel_rfl) (yi rfl fun w' hw' => gives_extract rfl rfl rfl) hS61 ?_
            go_frame
            refine wpAnyH_tk 11 (v := .int .i64 0) rfl (by kernel_rfl) (by kernel_rfl) (by kernel_rfl) (yi rfl fun w' hw' => gives_extract rfl rfl rfl) hS61 ?_
            go_frame
            refine wpAnyH_1 13 rfl (by kernel_rfl) ?_
            have hS62 : Below w11.heap.size w11 (u61.setRow bG #[.int .i64 (LP.canon L).1, .slice G gn gc]) := Below.setRow_ hS61 g_bG _
            refine wp_storeRow rfl rfl rfl BG.out (by kernel_rfl) rfl (by kernel_rfl) ⟨hS62, ?_⟩
            replace SG := hide (SG.out.setRow_ ne_bG #[.int .i64 (LP.canon L).1, .slice G gn gc])
            have hbk2 : Blk (u61.setRow bG #[.int .i64 (LP.canon L).1, .slice G gn gc]) bG 24 #[.int .i64 (LP.canon L).1, .slice G gn gc] := setRow_heap _ _ _ _ _ _ BG.out
            replace BG := hide hbk2
            clear hbk2
            go_frame
            refine wpAnyH_tk 14 (v := .int .i64 0) rfl (by kernel_rfl) (by kernel_rfl) (by kernel_rfl) (yi rfl fun w' hw' => gives_move (.inr rfl) rfl) hS62 ?_
            go_frame
            refine wpAnyH_done (by kernel_rfl) (noPanic_mk ?_) _
            go_wp2_with fail
            go_meet
            exact ⟨bG, G, gn, gc, rfl, rfl, BG.out, SG.out, hS62⟩
        · have hS63 : Below w11.heap.size w11 (u50.alloc (.cells #[.int .i64 0, .slice none 0 0] 24)) := hS50.alloc hS50.size _
          have hb : Below u50.heap.size u50 (u50.alloc (.cells #[.int .i64 0, .slice none 0 0] 24)) := (Below.refl _ _).alloc (Nat.le_refl _) _
          have g_bG : w11.heap.size ≤ u50.heap.size := hS50.size
          replace S73 := hide (S73.out.below hb)
          replace S69 := hide (S69.out.below hb)
          have BG := hide (Blk.new u50 24 #[.int .i64 0, .slice none 0 0])
          refine wp_alloc (z := .agg #[.int .i64 0, .slice none 0 0]) (cs := #[.int .i64 0, .slice none 0 0]) rfl (by kernel_rfl) rfl ⟨hS63, ?_⟩
          obtain ⟨bG, hq⟩ : ∃ q, u50.heap.size = q := ⟨_, rfl⟩
          rw [hq] at BG g_bG  ⊢
          obtain ⟨u63, hw⟩ : ∃ x, u50.alloc (.cells #[.int .i64 0, .slice none 0 0] 24) = x := ⟨_, rfl⟩
          rw [hw] at hS63 BG S73 S69 ⊢
          clear hb hw hq
          go_frame
          refine wpAnyH_1 3 rfl (by kernel_rfl) ?_
          have CM := mul_c HFP.out HSK.out.r4 HSK.out.rP HSK.out.rP4 HSK.out.e1 u63 (some ⟨b69, 0, none⟩) 1 1 P pn pc (by rw [HC4.out]; exact S69.out) (SP.out.below hS63)
          rw [HC4.out] at CM
          refine wp_call [PV 4 (some ⟨b69, 0, none⟩) 1 1, PV (LP.canon JP).1 P pn pc] rfl rfl eMulK rfl ((CM).mono ?_)
          rintro e u64 ⟨U, un, uc, rfl, hs, hnw, hb⟩
          clear CM
          have hS64 : Below w11.heap.size w11 u64 := hS63.trans (hb.mono hS63.size)
          replace S73 := hide (S73.out.below hb)
          replace S69 := hide (S69.out.below hb)
          replace BG := hide (BG.out.below hb BG.out.lt)
          have SU := hide hs
          clear hb hs
          refine ⟨_, rfl, hS64, ?_⟩
          go_frame
          refine wpAnyH_1 7 rfl (by kernel_rfl) ?_
          have CM := mul_c HFP.out HSK.out.rm HSK.out.rQ HSK.out.rQ4 HSK.out.e2 u64 (some ⟨b73, 0, none⟩) 1 1 Q qn qc (by rw [HCM.out]; exact S73.out) (SQ.out.below hS64)
          rw [HCM.out] at CM
          refine wp_call [PV (-4) (some ⟨b73, 0, none⟩) 1 1, PV (LP.canon JQ).1 Q qn qc] rfl rfl eMulK rfl ((CM).mono ?_)
          rintro e u65 ⟨V, vn, vc, rfl, hs, hnw, hb⟩
          clear CM
          have hS65 : Below w11.heap.size w11 u65 := hS64.trans (hb.mono hS64.size)
          replace S73 := hide (S73.out.below hb)
          replace S69 := hide (S69.out.below hb)
          replace BG := hide (BG.out.below hb BG.out.lt)
          replace SU := hide (SU.out.below hb)
          have SV := hide hs
          clear hb hs
          refine ⟨_, rfl, hS65, ?_⟩
          go_frame
          refine wpAnyH_1 8 rfl (by kernel_rfl) ?_
          refine wp_call [PV (LP.canon P4).1 U un uc, PV (LP.canon Q4).1 V vn vc] rfl rfl eSubL rfl ((sk_sub HFP.out HSK.out.rP4 HSK.out.rQ4 HSK.out.rL HSK.out.e3 u65 U un uc V vn vc SU.out SV.out).mono ?_)
          rintro e u66 ⟨G, gn, gc, rfl, hs, hN, hb⟩
          dsimp only at hs ⊢
          have hS66 : Below w11.heap.size w11 u66 := hS65.trans (hb.mono hS65.size)
          have ne_bG : 0 < gn → ∀ ad, G = some ad → ad.block ≠ bG := fun h ad e => by have := hN h ad e; have := BG.out.lt; omega
          replace S73 := hide (S73.out.below hb)
          replace S69 := hide (S69.out.below hb)
          replace BG := hide (BG.out.below hb BG.out.lt)
          replace SU := hide (SU.out.below hb)
          replace SV := hide (SV.out.below hb)
          have SG := hide hs
          clear hb hs
          refine ⟨_, rfl, hS66, ?_⟩
          go_frame
          refine wpAnyH_tk 9 (v := .tuple #[PV (LP.canon L).1 G gn gc, .int .i64 0]) rfl (by kernel_rfl) (by kernel_rfl) (by kernel_rfl) (yi rfl fun w' hw' => gives_move (.inl rfl) rfl) hS66 ?_
          go_frame
          refine wpAnyH_tk 10 (v := PV (LP.canon L).1 G gn gc) rfl (by kernel_rfl) (by kernel_rfl) (by kernel_rfl) (yi rfl fun w' hw' => gives_extract rfl rfl rfl) hS66 ?_
          go_frame
          refine wpAnyH_tk 11 (v := .int .i64 0) rfl (by kernel_rfl) (by kernel_rfl) (by kernel_rfl) (yi rfl fun w' hw' => gives_extract rfl rfl rfl) hS66 ?_
          go_frame
          refine wpAnyH_1 13 rfl (by kernel_rfl) ?_
          have hS67 : Below w11.heap.size w11 (u66.setRow bG #[.int .i64 (LP.canon L).1, .slice G gn gc]) := Below.setRow_ hS66 g_bG _
          refine wp_storeRow rfl rfl rfl BG.out (by kernel_rfl) rfl (by kernel_rfl) ⟨hS67, ?_⟩
          replace SG := hide (SG.out.setRow_ ne_bG #[.int .i64 (LP.canon L).1, .slice G gn gc])
          have hbk2 : Blk (u66.setRow bG #[.int .i64 (LP.canon L).1, .slice G gn gc]) bG 24 #[.int .i64 (LP.canon L).1, .slice G gn gc] := setRow_heap _ _ _ _ _ _ BG.out
          replace BG := hide hbk2
          clear hbk2
          go_frame
          refine wpAnyH_tk 14 (v := .int .i64 0) rfl (by kernel_rfl) (by kernel_rfl) (by kernel_rfl) (yi rfl fun w' hw' => gives_move (.inr rfl) rfl) hS67 ?_
          go_frame
          refine wpAnyH_done (by kernel_rfl) (noPanic_mk ?_) _
          go_wp2_with fail
          go_meet
          exact ⟨bG, G, gn, gc, rfl, rfl, BG.out, SG.out, hS67⟩
      · have hS68 : Below w11.heap.size w11 (u49.alloc (.cells #[.int .i64 0, .slice none 0 0] 24)) := hS49.alloc hS49.size _
        have hb : Below u49.heap.size u49 (u49.alloc (.cells #[.int .i64 0, .slice none 0 0] 24)) := (Below.refl _ _).alloc (Nat.le_refl _) _
        have g_bG : w11.heap.size ≤ u49.heap.size := hS49.size
        replace S73 := hide (S73.out.below hb)
        have BG := hide (Blk.new u49 24 #[.int .i64 0, .slice none 0 0])
        refine wp_alloc (z := .agg #[.int .i64 0, .slice none 0 0]) (cs := #[.int .i64 0, .slice none 0 0]) rfl (by kernel_rfl) rfl ⟨hS68, ?_⟩
        obtain ⟨bG, hq⟩ : ∃ q, u49.heap.size = q := ⟨_, rfl⟩
        rw [hq] at BG g_bG  ⊢
        obtain ⟨u68, hw⟩ : ∃ x, u49.alloc (.cells #[.int .i64 0, .slice none 0 0] 24) = x := ⟨_, rfl⟩
        rw [hw] at hS68 BG S73 ⊢
        clear hb hw hq
        go_frame
        refine wpAnyH_1 0 rfl (by kernel_rfl) ?_
        have hb : Below u68.heap.size u68 (u68.alloc (.cells #[.int .i64 1] 3)) := (Below.refl _ _).alloc (Nat.le_refl _) _
        have hl : SL (u68.alloc (.cells #[.int .i64 1] 3)) (some ⟨u68.heap.size, 0, none⟩) 1 1 [1] := SL.lit u68 [1] (by decide) rfl rfl
        replace S73 := hide (S73.out.below hb)
        replace BG := hide (BG.out.below hb BG.out.lt)
        have hS69 : Below w11.heap.size w11 (u68.alloc (.cells #[.int .i64 1] 3)) := hS68.trans (hb.mono hS68.size)
        refine wp_buildSlice_at (cells := #[.int .i64 1]) (l := [(0, .const (.int .i64 1))]) i0 _ 1 [(0, .int .i64 1)] rfl Try.underlying22 HI0.out HZ0.out HZ1.out (by decide) (by decide) rfl (by simp [Instr.fill, Value.cells, show Array.range (1 * 1) = #[0] from rfl]) ⟨hS69, ?_⟩
        obtain ⟨b69, hq⟩ : ∃ q, u68.heap.size = q := ⟨_, rfl⟩
        obtain ⟨u69, hw⟩ : ∃ x, u68.alloc (.cells #[.int .i64 1] 3) = x := ⟨_, rfl⟩
        rw [hw] at hl hS69 S73 BG ⊢
        rw [hq] at hl ⊢
        have S69 := hide hl
        clear hb hq hw hl
        go_frame
        refine wpAnyH_tk 1 (v := PV 4 (some ⟨b69, 0, none⟩) 1 1) rfl (by kernel_rfl) (by kernel_rfl) (by kernel_rfl) (yi rfl fun w' hw' => gives_build [(0, .int .i64 4), (1, .slice (some ⟨b69, 0, none⟩) 1 1)] rfl rfl (by kernel_rfl)) hS69 ?_
        go_frame
        refine wpAnyH_1 3 rfl (by kernel_rfl) ?_
        have CM := mul_c HFP.out HSK.out.r4 HSK.out.rP HSK.out.rP4 HSK.out.e1 u69 (some ⟨b69, 0, none⟩) 1 1 P pn pc (by rw [HC4.out]; exact S69.out) (SP.out.below hS69)
        rw [HC4.out] at CM
        refine wp_call [PV 4 (some ⟨b69, 0, none⟩) 1 1, PV (LP.canon JP).1 P pn pc] rfl rfl eMulK rfl ((CM).mono ?_)
        rintro e u70 ⟨U, un, uc, rfl, hs, hnw, hb⟩
        clear CM
        have hS70 : Below w11.heap.size w11 u70 := hS69.trans (hb.mono hS69.size)
        replace S73 := hide (S73.out.below hb)
        replace BG := hide (BG.out.below hb BG.out.lt)
        replace S69 := hide (S69.out.below hb)
        have SU := hide hs
        clear hb hs
        refine ⟨_, rfl, hS70, ?_⟩
        go_frame
        refine wpAnyH_1 7 rfl (by kernel_rfl) ?_
        have CM := mul_c HFP.out HSK.out.rm HSK.out.rQ HSK.out.rQ4 HSK.out.e2 u70 (some ⟨b73, 0, none⟩) 1 1 Q qn qc (by rw [HCM.out]; exact S73.out) (SQ.out.below hS70)
        rw [HCM.out] at CM
        refine wp_call [PV (-4) (some ⟨b73, 0, none⟩) 1 1, PV (LP.canon JQ).1 Q qn qc] rfl rfl eMulK rfl ((CM).mono ?_)
        rintro e u71 ⟨V, vn, vc, rfl, hs, hnw, hb⟩
        clear CM
        have hS71 : Below w11.heap.size w11 u71 := hS70.trans (hb.mono hS70.size)
        replace S73 := hide (S73.out.below hb)
        replace BG := hide (BG.out.below hb BG.out.lt)
        replace S69 := hide (S69.out.below hb)
        replace SU := hide (SU.out.below hb)
        have SV := hide hs
        clear hb hs
        refine ⟨_, rfl, hS71, ?_⟩
        go_frame
        refine wpAnyH_1 8 rfl (by kernel_rfl) ?_
        refine wp_call [PV (LP.canon P4).1 U un uc, PV (LP.canon Q4).1 V vn vc] rfl rfl eSubL rfl ((sk_sub HFP.out HSK.out.rP4 HSK.out.rQ4 HSK.out.rL HSK.out.e3 u71 U un uc V vn vc SU.out SV.out).mono ?_)
        rintro e u72 ⟨G, gn, gc, rfl, hs, hN, hb⟩
        dsimp only at hs ⊢
        have hS72 : Below w11.heap.size w11 u72 := hS71.trans (hb.mono hS71.size)
        have ne_bG : 0 < gn → ∀ ad, G = some ad → ad.block ≠ bG := fun h ad e => by have := hN h ad e; have := BG.out.lt; omega
        replace S73 := hide (S73.out.below hb)
        replace BG := hide (BG.out.below hb BG.out.lt)
        replace S69 := hide (S69.out.below hb)
        replace SU := hide (SU.out.below hb)
        replace SV := hide (SV.out.below hb)
        have SG := hide hs
        clear hb hs
        refine ⟨_, rfl, hS72, ?_⟩
        go_frame
        refine wpAnyH_tk 9 (v := .tuple #[PV (LP.canon L).1 G gn gc, .int .i64 0]) rfl (by kernel_rfl) (by kernel_rfl) (by kernel_rfl) (yi rfl fun w' hw' => gives_move (.inl rfl) rfl) hS72 ?_
        go_frame
        refine wpAnyH_tk 10 (v := PV (LP.canon L).1 G gn gc) rfl (by kernel_rfl) (by kernel_rfl) (by kernel_rfl) (yi rfl fun w' hw' => gives_extract rfl rfl rfl) hS72 ?_
        go_frame
        refine wpAnyH_tk 11 (v := .int .i64 0) rfl (by kernel_rfl) (by kernel_rfl) (by kernel_rfl) (yi rfl fun w' hw' => gives_extract rfl rfl rfl) hS72 ?_
        go_frame
        refine wpAnyH_1 13 rfl (by kernel_rfl) ?_
        have hS73 : Below w11.heap.size w11 (u72.setRow bG #[.int .i64 (LP.canon L).1, .slice G gn gc]) := Below.setRow_ hS72 g_bG _
        refine wp_storeRow rfl rfl rfl BG.out (by kernel_rfl) rfl (by kernel_rfl) ⟨hS73, ?_⟩
        replace SG := hide (SG.out.setRow_ ne_bG #[.int .i64 (LP.canon L).1, .slice G gn gc])
        have hbk2 : Blk (u72.setRow bG #[.int .i64 (LP.canon L).1, .slice G gn gc]) bG 24 #[.int .i64 (LP.canon L).1, .slice G gn gc] := setRow_heap _ _ _ _ _ _ BG.out
        replace BG := hide hbk2
        clear hbk2
        go_frame
        refine wpAnyH_tk 14 (v := .int .i64 0) rfl (by kernel_rfl) (by kernel_rfl) (by kernel_rfl) (yi rfl fun w' hw' => gives_move (.inr rfl) rfl) hS73 ?_
        go_frame
        refine wpAnyH_done (by kernel_rfl) (noPanic_mk ?_) _
        go_wp2_with fail
        go_meet
        exact ⟨bG, G, gn, gc, rfl, rfl, BG.out, SG.out, hS73⟩
    · have hS74 : Below w11.heap.size w11 (w11.drew.alloc (.cells #[.int .i64 0, .slice none 0 0] 24)) := hS0.alloc hS0.size _
      have hb : Below w11.drew.heap.size w11.drew (w11.drew.alloc (.cells #[.int .i64 0, .slice none 0 0] 24)) := (Below.refl _ _).alloc (Nat.le_refl _) _
      have g_bG : w11.heap.size ≤ w11.drew.heap.size := hS0.size
      have BG := hide (Blk.new w11.drew 24 #[.int .i64 0, .slice none 0 0])
      refine wp_alloc (z := .agg #[.int .i64 0, .slice none 0 0]) (cs := #[.int .i64 0, .slice none 0 0]) rfl (by kernel_rfl) rfl ⟨hS74, ?_⟩
      obtain ⟨bG, hq⟩ : ∃ q, w11.drew.heap.size = q := ⟨_, rfl⟩
      rw [hq] at BG g_bG  ⊢
      obtain ⟨u74, hw⟩ : ∃ x, w11.drew.alloc (.cells #[.int .i64 0, .slice none 0 0] 24) = x := ⟨_, rfl⟩
      rw [hw] at hS74 BG ⊢
      clear hb hw hq
      go_frame
      refine wpAnyH_2 0 4 rfl rfl (by kernel_rfl) ?_ ?_
      · have hb : Below u74.heap.size u74 (u74.alloc (.cells #[.int .i64 1] 3)) := (Below.refl _ _).alloc (Nat.le_refl _) _
        have hl : SL (u74.alloc (.cells #[.int .i64 1] 3)) (some ⟨u74.heap.size, 0, none⟩) 1 1 [1] := SL.lit u74 [1] (by decide) rfl rfl
        replace BG := hide (BG.out.below hb BG.out.lt)
        have hS75 : Below w11.heap.size w11 (u74.alloc (.cells #[.int .i64 1] 3)) := hS74.trans (hb.mono hS74.size)
        refine wp_buildSlice_at (cells := #[.int .i64 1]) (l := [(0, .const (.int .i64 1))]) i0 _ 1 [(0, .int .i64 1)] rfl Try.underlying22 HI0.out HZ0.out HZ1.out (by decide) (by decide) rfl (by simp [Instr.fill, Value.cells, show Array.range (1 * 1) = #[0] from rfl]) ⟨hS75, ?_⟩
        obtain ⟨b69, hq⟩ : ∃ q, u74.heap.size = q := ⟨_, rfl⟩
        obtain ⟨u75, hw⟩ : ∃ x, u74.alloc (.cells #[.int .i64 1] 3) = x := ⟨_, rfl⟩
        rw [hw] at hl hS75 BG ⊢
        rw [hq] at hl ⊢
        have S69 := hide hl
        clear hb hq hw hl
        go_frame
        refine wpAnyH_tk 1 (v := PV 4 (some ⟨b69, 0, none⟩) 1 1) rfl (by kernel_rfl) (by kernel_rfl) (by kernel_rfl) (yi rfl fun w' hw' => gives_build [(0, .int .i64 4), (1, .slice (some ⟨b69, 0, none⟩) 1 1)] rfl rfl (by kernel_rfl)) hS75 ?_
        go_frame
        refine wpAnyH_2 3 4 rfl rfl (by kernel_rfl) ?_ ?_
        · have CM := mul_c HFP.out HSK.out.r4 HSK.out.rP HSK.out.rP4 HSK.out.e1 u75 (some ⟨b69, 0, none⟩) 1 1 P pn pc (by rw [HC4.out]; exact S69.out) (SP.out.below hS75)
          rw [HC4.out] at CM
          refine wp_call [PV 4 (some ⟨b69, 0, none⟩) 1 1, PV (LP.canon JP).1 P pn pc] rfl rfl eMulK rfl ((CM).mono ?_)
          rintro e u76 ⟨U, un, uc, rfl, hs, hnw, hb⟩
          clear CM
          have hS76 : Below w11.heap.size w11 u76 := hS75.trans (hb.mono hS75.size)
          replace BG := hide (BG.out.below hb BG.out.lt)
          replace S69 := hide (S69.out.below hb)
          have SU := hide hs
          clear hb hs
          refine ⟨_, rfl, hS76, ?_⟩
          go_frame
          refine wpAnyH_1 4 rfl (by kernel_rfl) ?_
          have hb : Below u76.heap.size u76 (u76.alloc (.cells #[.int .i64 1] 3)) := (Below.refl _ _).alloc (Nat.le_refl _) _
          have hl : SL (u76.alloc (.cells #[.int .i64 1] 3)) (some ⟨u76.heap.size, 0, none⟩) 1 1 [1] := SL.lit u76 [1] (by decide) rfl rfl
          replace BG := hide (BG.out.below hb BG.out.lt)
          replace S69 := hide (S69.out.below hb)
          replace SU := hide (SU.out.below hb)
          have hS77 : Below w11.heap.size w11 (u76.alloc (.cells #[.int .i64 1] 3)) := hS76.trans (hb.mono hS76.size)
          refine wp_buildSlice_at (cells := #[.int .i64 1]) (l := [(0, .const (.int .i64 1))]) i0 _ 1 [(0, .int .i64 1)] rfl Try.underlying22 HI0.out HZ0.out HZ1.out (by decide) (by decide) rfl (by simp [Instr.fill, Value.cells, show Array.range (1 * 1) = #[0] from rfl]) ⟨hS77, ?_⟩
          obtain ⟨b73, hq⟩ : ∃ q, u76.heap.size = q := ⟨_, rfl⟩
          obtain ⟨u77, hw⟩ : ∃ x, u76.alloc (.cells #[.int .i64 1] 3) = x := ⟨_, rfl⟩
          rw [hw] at hl hS77 BG S69 SU ⊢
          rw [hq] at hl ⊢
          have S73 := hide hl
          clear hb hq hw hl
          go_frame
          refine wpAnyH_tk 5 (v := PV (-4) (some ⟨b73, 0, none⟩) 1 1) rfl (by kernel_rfl) (by kernel_rfl) (by kernel_rfl) (yi rfl fun w' hw' => gives_build [(0, .int .i64 (-4)), (1, .slice (some ⟨b73, 0, none⟩) 1 1)] rfl rfl (by kernel_rfl)) hS77 ?_
          go_frame
          refine wpAnyH_1 7 rfl (by kernel_rfl) ?_
          have CM := mul_c HFP.out HSK.out.rm HSK.out.rQ HSK.out.rQ4 HSK.out.e2 u77 (some ⟨b73, 0, none⟩) 1 1 Q qn qc (by rw [HCM.out]; exact S73.out) (SQ.out.below hS77)
          rw [HCM.out] at CM
          refine wp_call [PV (-4) (some ⟨b73, 0, none⟩) 1 1, PV (LP.canon JQ).1 Q qn qc] rfl rfl eMulK rfl ((CM).mono ?_)
          rintro e u78 ⟨V, vn, vc, rfl, hs, hnw, hb⟩
          clear CM
          have hS78 : Below w11.heap.size w11 u78 := hS77.trans (hb.mono hS77.size)
          replace BG := hide (BG.out.below hb BG.out.lt)
          replace S69 := hide (S69.out.below hb)
          replace SU := hide (SU.out.below hb)
          replace S73 := hide (S73.out.below hb)
          have SV := hide hs
          clear hb hs
          refine ⟨_, rfl, hS78, ?_⟩
          go_frame
          refine wpAnyH_1 8 rfl (by kernel_rfl) ?_
          refine wp_call [PV (LP.canon P4).1 U un uc, PV (LP.canon Q4).1 V vn vc] rfl rfl eSubL rfl ((sk_sub HFP.out HSK.out.rP4 HSK.out.rQ4 HSK.out.rL HSK.out.e3 u78 U un uc V vn vc SU.out SV.out).mono ?_)
          rintro e u79 ⟨G, gn, gc, rfl, hs, hN, hb⟩
          dsimp only at hs ⊢
          have hS79 : Below w11.heap.size w11 u79 := hS78.trans (hb.mono hS78.size)
          have ne_bG : 0 < gn → ∀ ad, G = some ad → ad.block ≠ bG := fun h ad e => by have := hN h ad e; have := BG.out.lt; omega
          replace BG := hide (BG.out.below hb BG.out.lt)
          replace S69 := hide (S69.out.below hb)
          replace SU := hide (SU.out.below hb)
          replace S73 := hide (S73.out.below hb)
          replace SV := hide (SV.out.below hb)
          have SG := hide hs
          clear hb hs
          refine ⟨_, rfl, hS79, ?_⟩
          go_frame
          refine wpAnyH_tk 9 (v := .tuple #[PV (LP.canon L).1 G gn gc, .int .i64 0]) rfl (by kernel_rfl) (by kernel_rfl) (by kernel_rfl) (yi rfl fun w' hw' => gives_move (.inl rfl) rfl) hS79 ?_
          go_frame
          refine wpAnyH_tk 10 (v := PV (LP.canon L).1 G gn gc) rfl (by kernel_rfl) (by kernel_rfl) (by kernel_rfl) (yi rfl fun w' hw' => gives_extract rfl rfl rfl) hS79 ?_
          go_frame
          refine wpAnyH_tk 11 (v := .int .i64 0) rfl (by kernel_rfl) (by kernel_rfl) (by kernel_rfl) (yi rfl fun w' hw' => gives_extract rfl rfl rfl) hS79 ?_
          go_frame
          refine wpAnyH_1 13 rfl (by kernel_rfl) ?_
          have hS80 : Below w11.heap.size w11 (u79.setRow bG #[.int .i64 (LP.canon L).1, .slice G gn gc]) := Below.setRow_ hS79 g_bG _
          refine wp_storeRow rfl rfl rfl BG.out (by kernel_rfl) rfl (by kernel_rfl) ⟨hS80, ?_⟩
          replace SG := hide (SG.out.setRow_ ne_bG #[.int .i64 (LP.canon L).1, .slice G gn gc])
          have hbk2 : Blk (u79.setRow bG #[.int .i64 (LP.canon L).1, .slice G gn gc]) bG 24 #[.int .i64 (LP.canon L).1, .slice G gn gc] := setRow_heap _ _ _ _ _ _ BG.out
          replace BG := hide hbk2
          clear hbk2
          go_frame
          refine wpAnyH_tk 14 (v := .int .i64 0) rfl (by kernel_rfl) (by kernel_rfl) (by kernel_rfl) (yi rfl fun w' hw' => gives_move (.inr rfl) rfl) hS80 ?_
          go_frame
          refine wpAnyH_done (by kernel_rfl) (noPanic_mk ?_) _
          go_wp2_with fail
          go_meet
          exact ⟨bG, G, gn, gc, rfl, rfl, BG.out, SG.out, hS80⟩
        · have hb : Below u75.heap.size u75 (u75.alloc (.cells #[.int .i64 1] 3)) := (Below.refl _ _).alloc (Nat.le_refl _) _
          have hl : SL (u75.alloc (.cells #[.int .i64 1] 3)) (some ⟨u75.heap.size, 0, none⟩) 1 1 [1] := SL.lit u75 [1] (by decide) rfl rfl
          replace BG := hide (BG.out.below hb BG.out.lt)
          replace S69 := hide (S69.out.below hb)
          have hS81 : Below w11.heap.size w11 (u75.alloc (.cells #[.int .i64 1] 3)) := hS75.trans (hb.mono hS75.size)
          refine wp_buildSlice_at (cells := #[.int .i64 1]) (l := [(0, .const (.int .i64 1))]) i0 _ 1 [(0, .int .i64 1)] rfl Try.underlying22 HI0.out HZ0.out HZ1.out (by decide) (by decide) rfl (by simp [Instr.fill, Value.cells, show Array.range (1 * 1) = #[0] from rfl]) ⟨hS81, ?_⟩
          obtain ⟨b73, hq⟩ : ∃ q, u75.heap.size = q := ⟨_, rfl⟩
          obtain ⟨u81, hw⟩ : ∃ x, u75.alloc (.cells #[.int .i64 1] 3) = x := ⟨_, rfl⟩
          rw [hw] at hl hS81 BG S69 ⊢
          rw [hq] at hl ⊢
          have S73 := hide hl
          clear hb hq hw hl
          go_frame
          refine wpAnyH_tk 5 (v := PV (-4) (some ⟨b73, 0, none⟩) 1 1) rfl (by kernel_rfl) (by kernel_rfl) (by kernel_rfl) (yi rfl fun w' hw' => gives_build [(0, .int .i64 (-4)), (1, .slice (some ⟨b73, 0, none⟩) 1 1)] rfl rfl (by kernel_rfl)) hS81 ?_
          go_frame
          refine wpAnyH_1 3 rfl (by kernel_rfl) ?_
          have CM := mul_c HFP.out HSK.out.r4 HSK.out.rP HSK.out.rP4 HSK.out.e1 u81 (some ⟨b69, 0, none⟩) 1 1 P pn pc (by rw [HC4.out]; exact S69.out) (SP.out.below hS81)
          rw [HC4.out] at CM
          refine wp_call [PV 4 (some ⟨b69, 0, none⟩) 1 1, PV (LP.canon JP).1 P pn pc] rfl rfl eMulK rfl ((CM).mono ?_)
          rintro e u82 ⟨U, un, uc, rfl, hs, hnw, hb⟩
          clear CM
          have hS82 : Below w11.heap.size w11 u82 := hS81.trans (hb.mono hS81.size)
          replace BG := hide (BG.out.below hb BG.out.lt)
          replace S69 := hide (S69.out.below hb)
          replace S73 := hide (S73.out.below hb)
          have SU := hide hs
          clear hb hs
          refine ⟨_, rfl, hS82, ?_⟩
          go_frame
          refine wpAnyH_1 7 rfl (by kernel_rfl) ?_
          have CM := mul_c HFP.out HSK.out.rm HSK.out.rQ HSK.out.rQ4 HSK.out.e2 u82 (some ⟨b73, 0, none⟩) 1 1 Q qn qc (by rw [HCM.out]; exact S73.out) (SQ.out.below hS82)
          rw [HCM.out] at CM
          refine wp_call [PV (-4) (some ⟨b73, 0, none⟩) 1 1, PV (LP.canon JQ).1 Q qn qc] rfl rfl eMulK rfl ((CM).mono ?_)
          rintro e u83 ⟨V, vn, vc, rfl, hs, hnw, hb⟩
          clear CM
          have hS83 : Below w11.heap.size w11 u83 := hS82.trans (hb.mono hS82.size)
          replace BG := hide (BG.out.below hb BG.out.lt)
          replace S69 := hide (S69.out.below hb)
          replace S73 := hide (S73.out.below hb)
          replace SU := hide (SU.out.below hb)
          have SV := hide hs
          clear hb hs
          refine ⟨_, rfl, hS83, ?_⟩
          go_frame
          refine wpAnyH_1 8 rfl (by kernel_rfl) ?_
          refine wp_call [PV (LP.canon P4).1 U un uc, PV (LP.canon Q4).1 V vn vc] rfl rfl eSubL rfl ((sk_sub HFP.out HSK.out.rP4 HSK.out.rQ4 HSK.out.rL HSK.out.e3 u83 U un uc V vn vc SU.out SV.out).mono ?_)
          rintro e u84 ⟨G, gn, gc, rfl, hs, hN, hb⟩
          dsimp only at hs ⊢
          have hS84 : Below w11.heap.size w11 u84 := hS83.trans (hb.mono hS83.size)
          have ne_bG : 0 < gn → ∀ ad, G = some ad → ad.block ≠ bG := fun h ad e => by have := hN h ad e; have := BG.out.lt; omega
          replace BG := hide (BG.out.below hb BG.out.lt)
          replace S69 := hide (S69.out.below hb)
          replace S73 := hide (S73.out.below hb)
          replace SU := hide (SU.out.below hb)
          replace SV := hide (SV.out.below hb)
          have SG := hide hs
          clear hb hs
          refine ⟨_, rfl, hS84, ?_⟩
          go_frame
          refine wpAnyH_tk 9 (v := .tuple #[PV (LP.canon L).1 G gn gc, .int .i64 0]) rfl (by kernel_rfl) (by kernel_rfl) (by kernel_rfl) (yi rfl fun w' hw' => gives_move (.inl rfl) rfl) hS84 ?_
          go_frame
          refine wpAnyH_tk 10 (v := PV (LP.canon L).1 G gn gc) rfl (by kernel_rfl) (by kernel_rfl) (by kernel_rfl) (yi rfl fun w' hw' => gives_extract rfl rfl rfl) hS84 ?_
          go_frame
          refine wpAnyH_tk 11 (v := .int .i64 0) rfl (by kernel_rfl) (by kernel_rfl) (by kernel_rfl) (yi rfl fun w' hw' => gives_extract rfl rfl rfl) hS84 ?_
          go_frame
          refine wpAnyH_1 13 rfl (by kernel_rfl) ?_
          have hS85 : Below w11.heap.size w11 (u84.setRow bG #[.int .i64 (LP.canon L).1, .slice G gn gc]) := Below.setRow_ hS84 g_bG _
          refine wp_storeRow rfl rfl rfl BG.out (by kernel_rfl) rfl (by kernel_rfl) ⟨hS85, ?_⟩
          replace SG := hide (SG.out.setRow_ ne_bG #[.int .i64 (LP.canon L).1, .slice G gn gc])
          have hbk2 : Blk (u84.setRow bG #[.int .i64 (LP.canon L).1, .slice G gn gc]) bG 24 #[.int .i64 (LP.canon L).1, .slice G gn gc] := setRow_heap _ _ _ _ _ _ BG.out
          replace BG := hide hbk2
          clear hbk2
          go_frame
          refine wpAnyH_tk 14 (v := .int .i64 0) rfl (by kernel_rfl) (by kernel_rfl) (by kernel_rfl) (yi rfl fun w' hw' => gives_move (.inr rfl) rfl) hS85 ?_
          go_frame
          refine wpAnyH_done (by kernel_rfl) (noPanic_mk ?_) _
          go_wp2_with fail
          go_meet
          exact ⟨bG, G, gn, gc, rfl, rfl, BG.out, SG.out, hS85⟩
      · have hb : Below u74.heap.size u74 (u74.alloc (.cells #[.int .i64 1] 3)) := (Below.refl _ _).alloc (Nat.le_refl _) _
        have hl : SL (u74.alloc (.cells #[.int .i64 1] 3)) (some ⟨u74.heap.size, 0, none⟩) 1 1 [1] := SL.lit u74 [1] (by decide) rfl rfl
        replace BG := hide (BG.out.below hb BG.out.lt)
        have hS86 : Below w11.heap.size w11 (u74.alloc (.cells #[.int .i64 1] 3)) := hS74.trans (hb.mono hS74.size)
        refine wp_buildSlice_at (cells := #[.int .i64 1]) (l := [(0, .const (.int .i64 1))]) i0 _ 1 [(0, .int .i64 1)] rfl Try.underlying22 HI0.out HZ0.out HZ1.out (by decide) (by decide) rfl (by simp [Instr.fill, Value.cells, show Array.range (1 * 1) = #[0] from rfl]) ⟨hS86, ?_⟩
        obtain ⟨b73, hq⟩ : ∃ q, u74.heap.size = q := ⟨_, rfl⟩
        obtain ⟨u86, hw⟩ : ∃ x, u74.alloc (.cells #[.int .i64 1] 3) = x := ⟨_, rfl⟩
        rw [hw] at hl hS86 BG ⊢
        rw [hq] at hl ⊢
        have S73 := hide hl
        clear hb hq hw hl
        go_frame
        refine wpAnyH_tk 5 (v := PV (-4) (some ⟨b73, 0, none⟩) 1 1) rfl (by kernel_rfl) (by kernel_rfl) (by kernel_rfl) (yi rfl fun w' hw' => gives_build [(0, .int .i64 (-4)), (1, .slice (some ⟨b73, 0, none⟩) 1 1)] rfl rfl (by kernel_rfl)) hS86 ?_
        go_frame
        refine wpAnyH_1 0 rfl (by kernel_rfl) ?_
        have hb : Below u86.heap.size u86 (u86.alloc (.cells #[.int .i64 1] 3)) := (Below.refl _ _).alloc (Nat.le_refl _) _
        have hl : SL (u86.alloc (.cells #[.int .i64 1] 3)) (some ⟨u86.heap.size, 0, none⟩) 1 1 [1] := SL.lit u86 [1] (by decide) rfl rfl
        replace BG := hide (BG.out.below hb BG.out.lt)
        replace S73 := hide (S73.out.below hb)
        have hS87 : Below w11.heap.size w11 (u86.alloc (.cells #[.int .i64 1] 3)) := hS86.trans (hb.mono hS86.size)
        refine wp_buildSlice_at (cells := #[.int .i64 1]) (l := [(0, .const (.int .i64 1))]) i0 _ 1 [(0, .int .i64 1)] rfl Try.underlying22 HI0.out HZ0.out HZ1.out (by decide) (by decide) rfl (by simp [Instr.fill, Value.cells, show Array.range (1 * 1) = #[0] from rfl]) ⟨hS87, ?_⟩
        obtain ⟨b69, hq⟩ : ∃ q, u86.heap.size = q := ⟨_, rfl⟩
        obtain ⟨u87, hw⟩ : ∃ x, u86.alloc (.cells #[.int .i64 1] 3) = x := ⟨_, rfl⟩
        rw [hw] at hl hS87 BG S73 ⊢
        rw [hq] at hl ⊢
        have S69 := hide hl
        clear hb hq hw hl
        go_frame
        refine wpAnyH_tk 1 (v := PV 4 (some ⟨b69, 0, none⟩) 1 1) rfl (by kernel_rfl) (by kernel_rfl) (by kernel_rfl) (yi rfl fun w' hw' => gives_build [(0, .int .i64 4), (1, .slice (some ⟨b69, 0, none⟩) 1 1)] rfl rfl (by kernel_rfl)) hS87 ?_
        go_frame
        refine wpAnyH_1 3 rfl (by kernel_rfl) ?_
        have CM := mul_c HFP.out HSK.out.r4 HSK.out.rP HSK.out.rP4 HSK.out.e1 u87 (some ⟨b69, 0, none⟩) 1 1 P pn pc (by rw [HC4.out]; exact S69.out) (SP.out.below hS87)
        rw [HC4.out] at CM
        refine wp_call [PV 4 (some ⟨b69, 0, none⟩) 1 1, PV (LP.canon JP).1 P pn pc] rfl rfl eMulK rfl ((CM).mono ?_)
        rintro e u88 ⟨U, un, uc, rfl, hs, hnw, hb⟩
        clear CM
        have hS88 : Below w11.heap.size w11 u88 := hS87.trans (hb.mono hS87.size)
        replace BG := hide (BG.out.below hb BG.out.lt)
        replace S73 := hide (S73.out.below hb)
        replace S69 := hide (S69.out.below hb)
        have SU := hide hs
        clear hb hs
        refine ⟨_, rfl, hS88, ?_⟩
        go_frame
        refine wpAnyH_1 7 rfl (by kernel_rfl) ?_
        have CM := mul_c HFP.out HSK.out.rm HSK.out.rQ HSK.out.rQ4 HSK.out.e2 u88 (some ⟨b73, 0, none⟩) 1 1 Q qn qc (by rw [HCM.out]; exact S73.out) (SQ.out.below hS88)
        rw [HCM.out] at CM
        refine wp_call [PV (-4) (some ⟨b73, 0, none⟩) 1 1, PV (LP.canon JQ).1 Q qn qc] rfl rfl eMulK rfl ((CM).mono ?_)
        rintro e u89 ⟨V, vn, vc, rfl, hs, hnw, hb⟩
        clear CM
        have hS89 : Below w11.heap.size w11 u89 := hS88.trans (hb.mono hS88.size)
        replace BG := hide (BG.out.below hb BG.out.lt)
        replace S73 := hide (S73.out.below hb)
        replace S69 := hide (S69.out.below hb)
        replace SU := hide (SU.out.below hb)
        have SV := hide hs
        clear hb hs
        refine ⟨_, rfl, hS89, ?_⟩
        go_frame
        refine wpAnyH_1 8 rfl (by kernel_rfl) ?_
        refine wp_call [PV (LP.canon P4).1 U un uc, PV (LP.canon Q4).1 V vn vc] rfl rfl eSubL rfl ((sk_sub HFP.out HSK.out.rP4 HSK.out.rQ4 HSK.out.rL HSK.out.e3 u89 U un uc V vn vc SU.out SV.out).mono ?_)
        rintro e u90 ⟨G, gn, gc, rfl, hs, hN, hb⟩
        dsimp only at hs ⊢
        have hS90 : Below w11.heap.size w11 u90 := hS89.trans (hb.mono hS89.size)
        have ne_bG : 0 < gn → ∀ ad, G = some ad → ad.block ≠ bG := fun h ad e => by have := hN h ad e; have := BG.out.lt; omega
        replace BG := hide (BG.out.below hb BG.out.lt)
        replace S73 := hide (S73.out.below hb)
        replace S69 := hide (S69.out.below hb)
        replace SU := hide (SU.out.below hb)
        replace SV := hide (SV.out.below hb)
        have SG := hide hs
        clear hb hs
        refine ⟨_, rfl, hS90, ?_⟩
        go_frame
        refine wpAnyH_tk 9 (v := .tuple #[PV (LP.canon L).1 G gn gc, .int .i64 0]) rfl (by kernel_rfl) (by kernel_rfl) (by kernel_rfl) (yi rfl fun w' hw' => gives_move (.inl rfl) rfl) hS90 ?_
        go_frame
        refine wpAnyH_tk 10 (v := PV (LP.canon L).1 G gn gc) rfl (by kernel_rfl) (by kernel_rfl) (by kernel_rfl) (yi rfl fun w' hw' => gives_extract rfl rfl rfl) hS90 ?_
        go_frame
        refine wpAnyH_tk 11 (v := .int .i64 0) rfl (by kernel_rfl) (by kernel_rfl) (by kernel_rfl) (yi rfl fun w' hw' => gives_extract rfl rfl rfl) hS90 ?_
        go_frame
        refine wpAnyH_1 13 rfl (by kernel_rfl) ?_
        have hS91 : Below w11.heap.size w11 (u90.setRow bG #[.int .i64 (LP.canon L).1, .slice G gn gc]) := Below.setRow_ hS90 g_bG _
        refine wp_storeRow rfl rfl rfl BG.out (by kernel_rfl) rfl (by kernel_rfl) ⟨hS91, ?_⟩
        replace SG := hide (SG.out.setRow_ ne_bG #[.int .i64 (LP.canon L).1, .slice G gn gc])
        have hbk2 : Blk (u90.setRow bG #[.int .i64 (LP.canon L).1, .slice G gn gc]) bG 24 #[.int .i64 (LP.canon L).1, .slice G gn gc] := setRow_heap _ _ _ _ _ _ BG.out
        replace BG := hide hbk2
        clear hbk2
        go_frame
        refine wpAnyH_tk 14 (v := .int .i64 0) rfl (by kernel_rfl) (by kernel_rfl) (by kernel_rfl) (yi rfl fun w' hw' => gives_move (.inr rfl) rfl) hS91 ?_
        go_frame
        refine wpAnyH_done (by kernel_rfl) (noPanic_mk ?_) _
        go_wp2_with fail
        go_meet
        exact ⟨bG, G, gn, gc, rfl, rfl, BG.out, SG.out, hS91⟩
  case rest =>
    obtain ⟨bG, G, gn, gc, rfl, rfl, hbk, hsl, hb⟩ := hcut
    clear LP0 LQ0
    replace HW := hide (HW.out.trans (hb.mono HW.out.size))
    replace SP := hide (SP.out.below hb)
    replace BP := hide (BP.out.below hb BP.out.lt)
    replace SQ := hide (SQ.out.below hb)
    replace BQ := hide (BQ.out.below hb BQ.out.lt)
    replace SR := hide (SR.out.below hb)
    replace BR := hide (BR.out.below hb BR.out.lt)
    have BG := hide hbk
    have SG := hide hsl
    clear hb hbk hsl
    clear SP SQ BP BQ
    have hb : Below wc.heap.size wc (wc.alloc (.cells #[.int .i64 1, .int .i64 0, .int .i64 0, .int .i64 0, .int .i64 (-1)] 3)) := (Below.refl _ _).alloc (Nat.le_refl _) _
    have HL : Hid (SL (wc.alloc (.cells #[.int .i64 1, .int .i64 0, .int .i64 0, .int .i64 0, .int .i64 (-1)] 3)) (some ⟨wc.heap.size, 0, none⟩) 5 5 [1, 0, 0, 0, -1]) := hide (SL.lit wc [1, 0, 0, 0, -1] (by decide) rfl rfl)
    replace HW := hide (HW.out.trans (hb.mono HW.out.size))
    replace SR := hide (SR.out.below hb)
    replace BR := hide (BR.out.below hb BR.out.lt)
    replace BG := hide (BG.out.below hb BG.out.lt)
    replace SG := hide (SG.out.below hb)
    have hr0 := BR.out.cell 0
    have hr1 := BR.out.cell 1
    simp at hr0 hr1
    clear hb
    have HCM2 : Hid (∀ (w : World) (A : Option Addr) (n c : Nat), SL w A n c [1, 0, 0, 0, -1] → SL w R rn rc (LP.canon JR).2 → Calls Try.prog 24 #[PV (-2) A n c, PV (LP.canon JR).1 R rn rc] w (GivesPE w (0, (LP.canon L).1, (LP.canon L).2))) := hide (fun w A n c h1 h2 => by
      have h := mulE_c HFP.out HSK.out.rK HSK.out.rR HSK.out.rL HSK.out.e4 w A n c R rn rc (by rw [HCK.out]; exact h1) h2
      rw [HCK.out] at h
      exact h)
    go_wp2_with fail
    refine (HCM2.out _ _ _ _ HL.out SR.out).mono ?_
    rintro e w12 ⟨H, hn, hc, rfl, hs, hN, hb⟩
    replace HW := hide (HW.out.trans (hb.mono HW.out.size))
    replace SR := hide (SR.out.below hb)
    replace BR := hide (BR.out.below hb BR.out.lt)
    replace BG := hide (BG.out.below hb BG.out.lt)
    replace SG := hide (SG.out.below hb)
    replace HL := hide (HL.out.below hb)
    dsimp only at hs ⊢
    have SH := hide hs
    clear hb hs hN hr0 hr1 HCM2
    clear HL SR BR
    go_upto_region 9 with fail
    have hb : Below w12.heap.size w12 (w12.alloc (.cells #[.int .i64 (LP.canon L).1, .slice H hn hc] 24)) := (Below.refl _ _).alloc (Nat.le_refl _) _
    have BH := hide (Blk.new w12 24 #[.int .i64 (LP.canon L).1, .slice H hn hc])
    replace HW := hide (HW.out.trans (hb.mono HW.out.size))
    replace BG := hide (BG.out.below hb BG.out.lt)
    replace SG := hide (SG.out.below hb)
    replace SH := hide (SH.out.below hb)
    obtain ⟨bH, hq⟩ : ∃ q, w12.heap.size = q := ⟨_, rfl⟩
    obtain ⟨w13, hw⟩ : ∃ x, w12.alloc (.cells #[.int .i64 (LP.canon L).1, .slice H hn hc] 24) = x := ⟨_, rfl⟩
    rw [hw] at BH HW BG SG SH ⊢
    rw [hq] at BH  ⊢
    clear hb hw hq
    go_wp2_with fail
    refine (HJD.out _).mono ?_
    rintro e w14 ⟨rfl, hb⟩
    replace HW := hide (HW.out.trans (hb.mono HW.out.size))
    replace BG := hide (BG.out.below hb BG.out.lt)
    replace SG := hide (SG.out.below hb)
    replace SH := hide (SH.out.below hb)
    replace BH := hide (BH.out.below hb BH.out.lt)
    clear hb
    have hg0 := BG.out.cell 0
    have hg1 := BG.out.cell 1
    simp at hg0 hg1
    have hh0 := BH.out.cell 0
    have hh1 := BH.out.cell 1
    simp at hh0 hh1
    go_wp2_with fail
    refine (keep_same L _ G gn gc H hn hc SG.out SH.out).mono ?_
    rintro e w15 ⟨rfl, hb⟩
    replace HW := hide (HW.out.trans (hb.mono HW.out.size))
    replace BG := hide (BG.out.below hb BG.out.lt)
    replace SG := hide (SG.out.below hb)
    replace SH := hide (SH.out.below hb)
    replace BH := hide (BH.out.below hb BH.out.lt)
    clear hb
    go_wp2_with fail
    go_ret
    exact ⟨rfl, HW.out⟩
end Go.Proofs.Ytmeicmhojingfaa
