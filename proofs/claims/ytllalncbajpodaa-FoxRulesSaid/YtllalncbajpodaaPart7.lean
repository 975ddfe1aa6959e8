/- Several texts of the walk in one. -/
import Derived.Test.YtllalncbajpodaaPart2
import Derived.Test.YtllalncbajpodaaPart6
import Derived.Test.YtllalncbajpodaaPart5
/- timbkeep1.FoxRules, for packages foxcalc and laurent that answer as they should. (Written by tools/gen_frules.py.) -/
namespace Go.Proofs.Ytllalncbajpodaa
set_option linter.unusedVariables false
set_option linter.unusedSimpArgs false
open Go.RowKit

theorem foxR_ok {x : List Int} (hx : ffault x = 0) {i : Int} (h1 : 1 ≤ i) (h6 : i ≤ 6) : foxR x i = (0, (LP.canon (LP.foxT i x)).1, (LP.canon (LP.foxT i x)).2) := by
  unfold foxR
  rw [if_pos hx, if_pos ⟨h1, h6⟩]
theorem word_fx (A : Option Addr) (l c : Nat) (xs : List Int) (w : World) (hx : SL w A l c xs) :
    Calls Try.prog 13 #[.int .i64 6, .slice A l c, .int .i64 30] w fun e w' => ∃ us B m d, e = .returned (.slice B m d) ∧ SL w' B m d us ∧ ffault us = 0 ∧ us.length ≤ 30 ∧ Below w.heap.size w w' := by
  refine (word_any A 6 l c 30 xs w hx.il hx.cap (by omega) (by omega) (by omega)).mono ?_
  rintro e w' ⟨us, B, m, d, rfl, ho, hok, hm, hb⟩
  have hl := ho.len
  exact ⟨us, B, m, d, rfl, ho.sl, ffault_ok (by omega) (fun x hx => by have := hok x hx; omega), by omega, hb⟩
theorem ffault_two {x y : List Int} (hx : ffault x = 0) (hy : ffault y = 0) (lx : x.length ≤ 30) (ly : y.length ≤ 30) : ffault (x ++ y) = 0 :=
  ffault_ok (by rw [List.length_append]; omega) fun a ha => by
    rcases List.mem_append.1 ha with h | h
    · exact (ffault_zero hx).2 a h
    · exact (ffault_zero hy).2 a h
/-- What the walk needs to know of the polynomials of this law. -/
structure FoxF (P Q R E EQ T : LP) : Prop where
  rP : LP.Rt P
  rQ : LP.Rt Q
  rR : LP.Rt R
  rE : LP.Rt E
  rEQ : LP.Rt EQ
  e1 : E * Q = EQ
  e2 : P + EQ = R
  e3 : E + -1 = T
  rT : LP.Rt T
theorem foxF {x y : List Int} (lx : x.length ≤ 30) (ly : y.length ≤ 30) (i : Int) : ∃ EQ T, FoxF (LP.foxT i x) (LP.foxT i y) (LP.foxT i (x ++ y)) (LP.term (LP.expo x) 1) EQ T := by
  have l := LP.expo_le x
  have s2 := (LP.foxT_sm i y).shift (LP.expo x)
  have s1 : LP.Sm (LP.term (LP.expo x) 1) (-30) 30 1 := LP.Sm.term _ _ (by omega) (by omega) (by decide)
  have s0 : LP.Sm (1 : LP) (-30) 30 1 := LP.Sm.term 0 1 (by decide) (by decide) (by decide)
  exact ⟨_, _, LP.foxT_rt i (by omega), LP.foxT_rt i (by omega), LP.foxT_rt i (by rw [List.length_append]; omega), s1.pfl (by omega) (by omega) (by omega) (by omega), s2.pfl (by omega) (by omega) (by omega) (by omega), rfl, (LP.foxT_append i y x).symm, rfl, (s1.add s0.neg).pfl (by omega) (by omega) (by omega) (by omega)⟩
theorem rt_one : LP.Rt (1 : LP) := (LP.Sm.term 0 1 (l := 0) (h := 0) (B := 1) (by decide) (by decide) (by decide)).pfl (by decide) (by decide) (by decide) (by decide)
theorem rt_t : LP.Rt (LP.term 1 1) := (LP.Sm.term 1 1 (l := 1) (h := 1) (B := 1) (by decide) (by decide) (by decide)).pfl (by decide) (by decide) (by decide) (by decide)
theorem rt_less : LP.Rt LP.less := ((LP.Sm.term 1 1 (l := 0) (h := 1) (B := 1) (by decide) (by decide) (by decide)).add (LP.Sm.term 0 1 (l := 0) (h := 1) (B := 1) (by decide) (by decide) (by decide)).neg).pfl (by decide) (by decide) (by decide) (by decide)
theorem canon_1 : LP.canon (1 : LP) = (0, [1]) := LP.canon_term1 0
theorem sub_c (F : PolyC) {x y z : LP} (hx : LP.Rt x) (hy : LP.Rt y) (hz : LP.Rt z) (e : x + -y = z) (w : World) (A : Option Addr) (n c : Nat) (B : Option Addr) (m d : Nat) (ha : SL w A n c (LP.canon x).2) (hb : SL w B m d (LP.canon y).2) :
    Calls Try.prog 26 #[PV (LP.canon x).1 A n c, PV (LP.canon y).1 B m d] w (GivesPE w (0, (LP.canon z).1, (LP.canon z).2)) := by
  subst e
  have h := F.sub (LP.canon x).1 A n c (LP.canon x).2 (LP.canon y).1 B m d (LP.canon y).2 w ha hb hx.wf hy.wf
  rw [LP.subR_canon hx hy hz] at h
  exact h
/-- What holds in the law's loop. -/
structure RulI (w : World) (x : List Int) (T : LP) (Xp : Option Addr) (xn xc c19 c21 c23 : Nat) (La : Option Addr) (ln lc : Nat) (Ea : Option Addr) (e1 ec : Nat) (wr : World) (k : Nat) (Sa : Option Addr) (sn sc : Nat) : Prop where
  hx : SL wr Xp xn xc x
  b19 : Blk wr c19 27 #[.int .i64 (LP.canon T).1, .slice La ln lc]
  sl : SL wr La ln lc (LP.canon T).2
  b21 : Blk wr c21 27 #[.int .i64 (LP.canon LP.less).1, .slice Ea e1 ec]
  se : SL wr Ea e1 ec (LP.canon LP.less).2
  b23 : Blk wr c23 27 #[.int .i64 (LP.canon (LP.part x k)).1, .slice Sa sn sc]
  ss : SL wr Sa sn sc (LP.canon (LP.part x k)).2
  ns : 0 < sn → ∀ ad, Sa = some ad → ad.block ≠ c23
  bw : Below w.heap.size w wr
section
variable {w : World} {x : List Int} {T : LP} {Xp : Option Addr} {xn xc c19 c21 c23 : Nat} {La : Option Addr} {ln lc : Nat} {Ea : Option Addr} {e1 ec : Nat} {wr wr' : World} {k : Nat} {Sa : Option Addr} {sn sc : Nat}
theorem RulI.below (h : RulI w x T Xp xn xc c19 c21 c23 La ln lc Ea e1 ec wr k Sa sn sc) (hb : Below wr.heap.size wr wr') : RulI w x T Xp xn xc c19 c21 c23 La ln lc Ea e1 ec wr' k Sa sn sc :=
  ⟨h.hx.below hb, h.b19.below hb h.b19.lt, h.sl.below hb, h.b21.below hb h.b21.lt, h.se.below hb, h.b23.below hb h.b23.lt, h.ss.below hb, h.ns, h.bw.trans (hb.mono h.bw.size)⟩
theorem RulI.store (h : RulI w x T Xp xn xc c19 c21 c23 La ln lc Ea e1 ec wr k Sa sn sc) {N : Option Addr} {nn nc j : Nat} (hs : SL wr N nn nc (LP.canon (LP.part x j)).2) (hn : 0 < nn → ∀ ad, N = some ad → ad.block ≠ c23)
    (ix : 0 < xn → ∀ ad, Xp = some ad → ad.block ≠ c23) (il : 0 < ln → ∀ ad, La = some ad → ad.block ≠ c23) (ie : 0 < e1 → ∀ ad, Ea = some ad → ad.block ≠ c23) (nb : c19 < c23 ∧ c21 < c23 ∧ w.heap.size ≤ c23) :
    RulI w x T Xp xn xc c19 c21 c23 La ln lc Ea e1 ec (wr.setRow c23 #[.int .i64 (LP.canon (LP.part x j)).1, .slice N nn nc]) j N nn nc :=
  ⟨h.hx.setRow_ ix _, (setRow_other _ _ _ _ (by omega)).trans h.b19, h.sl.setRow_ il _, (setRow_other _ _ _ _ (by omega)).trans h.b21, h.se.setRow_ ie _, setRow_heap _ _ _ _ _ _ h.b23, hs.setRow_ hn _, hn, Below.setRow_ h.bw nb.2.2 _⟩
end
theorem eConcatK : ∀ args w, (callFunc 20 args).run Try.prog w = .ok (.enter 20 args) w := enters (fn := Try.f20) (by kernel_rfl) (by kernel_rfl) (by kernel_rfl)

set_option maxRecDepth 100000 in
set_option maxHeartbeats 8000000 in
theorem foxRules_any (F : PolyC) (G : FoxC) (A B : Option Addr) (n c m d : Nat) (xs ys : List Int) (i : Int) (w : World) (ha : SL w A n c xs) (hb : SL w B m d ys) :
    Calls Try.prog 5 #[.slice A n c, .slice B m d, .int .i64 i] w fun e w' => e = .returned (.bool true) ∧ Below w.heap.size w w' := by
  have HF := hide F
  have HG := hide G
  have HA := hide ha
  have HB := hide hb
  have HW := hide (Below.refl w.heap.size w)
  clear F G ha hb
  go_enter Try.func5, Try.ntmps5
  obtain ⟨i0, hi0, hz0, hz1, hz2⟩ := info_parts int_info
  have HI0 := hide hi0
  have HZ0 := hide hz0
  have HZ1 := hide hz1
  clear hi0 hz0 hz1 hz2
  go_wp2_with fail
  refine (word_fx A n c _ _ HA.out).mono ?_
  rintro e w101 ⟨x, Xp, xn, xc, rfl, hs, hf, hlen, hb⟩
  replace HW := hide (HW.out.trans (hb.mono HW.out.size))
  replace HB := hide (HB.out.below hb)
  have HX := hide hs
  have HEX := hide hf
  have HLX := hide hlen
  clear hf hlen
  clear hb hs
  go_wp2_with fail
  refine (word_fx B m d _ _ HB.out).mono ?_
  rintro e w102 ⟨y, Yp, yn, yc, rfl, hs, hf, hlen, hb⟩
  replace HX := hide (HX.out.below hb)
  replace HW := hide (HW.out.trans (hb.mono HW.out.size))
  have HY := hide hs
  have HEY := hide hf
  have HLY := hide hlen
  clear hf hlen
  clear hb hs
  clear HA HB
  go_wp2_with fail
  refine (mbelow_any i 6 _ (by omega) (by omega)).mono ?_
  rintro e wq ⟨rfl, hww⟩
  subst hww
  have hk1 : 1 ≤ 1 + i % ((6 : Nat) : Int) := by omega
  have hk6 : 1 + i % ((6 : Nat) : Int) ≤ 6 := by omega
  have hmn : 0 ≤ i % ((6 : Nat) : Int) ∧ i % ((6 : Nat) : Int) ≤ 5 := by omega
  generalize i % ((6 : Nat) : Int) = i1 at *
  obtain ⟨ii, hii⟩ : ∃ q, 1 + i1 = q := ⟨_, rfl⟩
  obtain ⟨EQ, T, R⟩ := foxF HLX.out HLY.out ii
  have HR := hide R
  have HRX := hide (foxR_ok HEX.out (i := ii) (by omega) (by omega))
  have HRY := hide (foxR_ok HEY.out (i := ii) (by omega) (by omega))
  have HRC := hide (foxR_ok (ffault_two HEX.out HEY.out HLX.out HLY.out) (i := ii) (by omega) (by omega))
  have hmin : IntKind.i64.min = -9223372036854775808 := by decide
  have hwi : (Lit.int .i64 ii).wf = true := by simp [Lit.wf, hmin]; omega
  clear hmin
  have HWI := hide hwi
  clear R hwi
  have hw1 : IntKind.i64.wrap (1 + i1) = ii := by rw [IntKind.wrap_i64]; omega
  have HW1 := hide hw1
  clear hw1 hk1 hk6 hmn hii
  go_upto_region 3 with ((with_reducible show wpList _ _ _ (Oper.mk _ (.binOp .add _ _ _ _) _ _ _ _ :: _) _ _); refine wpList_gives rfl (gives_add rfl rfl rfl HW1.out) ?_)
  clear HW1
  generalize LP.foxT ii x = P at *
  generalize LP.foxT ii y = Q at *
  generalize LP.foxT ii (x ++ y) = RR at *
  go_wp2_with fail
  refine (HG.out.derivative Xp xn xc x ii _ HX.out HWI.out).mono ?_
  rintro e w103 ⟨Pa, pn, pc, rfl, hs, hnw, hb⟩
  replace HX := hide (HX.out.below hb)
  replace HY := hide (HY.out.below hb)
  replace HW := hide (HW.out.trans (hb.mono HW.out.size))
  rw [HRX.out] at hs ⊢
  dsimp only at hs ⊢
  clear hnw
  have HP := hide hs
  clear hb hs
  go_upto_region 4 with fail
  have hb : Below w103.heap.size w103 (w103.alloc (.cells #[.int .i64 (LP.canon P).1, .slice Pa pn pc] 27)) := (Below.refl _ _).alloc (Nat.le_refl _) _
  have BP := hide (Blk.new w103 27 #[.int .i64 (LP.canon P).1, .slice Pa pn pc])
  have g_b9 := HW.out.size
  replace HX := hide (HX.out.below hb)
  replace HY := hide (HY.out.below hb)
  replace HP := hide (HP.out.below hb)
  replace HW := hide (HW.out.trans (hb.mono HW.out.size))
  obtain ⟨b9, hq⟩ : ∃ q, w103.heap.size = q := ⟨_, rfl⟩
  obtain ⟨w104, hw⟩ : ∃ x, w103.alloc (.cells #[.int .i64 (LP.canon P).1, .slice Pa pn pc] 27) = x := ⟨_, rfl⟩
  rw [hw] at BP HX HY HP HW ⊢
  rw [hq] at BP g_b9 ⊢
  clear hb hw hq
  go_wp2_with fail
  refine (HG.out.derivative Yp yn yc y ii _ HY.out HWI.out).mono ?_
  rintro e w105 ⟨Qa, qn, qc, rfl, hs, hnw, hb⟩
  replace HX := hide (HX.out.below hb)
  replace HY := hide (HY.out.below hb)
  replace HP := hide (HP.out.below hb)
  replace BP := hide (BP.out.below hb BP.out.lt)
  replace HW := hide (HW.out.trans (hb.mono HW.out.size))
  rw [HRY.out] at hs ⊢
  dsimp only at hs ⊢
  clear hnw
  have HQ := hide hs
  clear hb hs
  go_upto_region 5 with fail
  have hb : Below w105.heap.size w105 (w105.alloc (.cells #[.int .i64 (LP.canon Q).1, .slice Qa qn qc] 27)) := (Below.refl _ _).alloc (Nat.le_refl _) _
  have BQ := hide (Blk.new w105 27 #[.int .i64 (LP.canon Q).1, .slice Qa qn qc])
  have n_b9_b11 : b9 < w105.heap.size := BP.out.lt
  have g_b11 := HW.out.size
  replace HX := hide (HX.out.below hb)
  replace HY := hide (HY.out.below hb)
  replace HP := hide (HP.out.below hb)
  replace BP := hide (BP.out.below hb BP.out.lt)
  replace HQ := hide (HQ.out.below hb)
  replace HW := hide (HW.out.trans (hb.mono HW.out.size))
  obtain ⟨b11, hq⟩ : ∃ q, w105.heap.size = q := ⟨_, rfl⟩
  obtain ⟨w106, hw⟩ : ∃ x, w105.alloc (.cells #[.int .i64 (LP.canon Q).1, .slice Qa qn qc] 27) = x := ⟨_, rfl⟩
  rw [hw] at BQ HX HY HP BP HQ HW ⊢
  rw [hq] at BQ n_b9_b11 g_b11 ⊢
  clear hb hw hq
  go_wp2_with fail
  have HLIT := hide (show ILL (w106.alloc (.cells #[.slice Xp xn xc, .slice Yp yn yc] 22)) (some ⟨w106.heap.size, 0, none⟩) 2 [x, y] from
    ILL.lit (vs := [.slice Xp xn xc, .slice Yp yn yc]) rfl (by simp) (fun j hj => by
      match j, hj with
      | 0, _ => exact ⟨_, _, _, rfl, HX.out.il⟩
      | 1, _ => exact ⟨_, _, _, rfl, HY.out.il⟩
      | j + 2, h => exact absurd h (by simp)) rfl rfl)
  have hal : Below w106.heap.size w106 (w106.alloc (.cells #[.slice Xp xn xc, .slice Yp yn yc] 22)) := (Below.refl _ _).alloc (Nat.le_refl _) _
  have hfl : [x, y].flatten = x ++ y := by simp
  refine (concat_any (some ⟨w106.heap.size, 0, none⟩) 2 2 _ _ HLIT.out (by rw [hfl, List.length_append]; have := HLX.out; have := HLY.out; omega)).mono ?_
  rintro e w107 ⟨Dp, dn, dc, rfl, ho, hb0⟩
  have hb := hal.trans (hb0.mono hal.size)
  rw [hfl] at ho
  replace HX := hide (HX.out.below hb)
  replace HY := hide (HY.out.below hb)
  replace HP := hide (HP.out.below hb)
  replace BP := hide (BP.out.below hb BP.out.lt)
  replace HQ := hide (HQ.out.below hb)
  replace BQ := hide (BQ.out.below hb BQ.out.lt)
  replace HW := hide (HW.out.trans (hb.mono HW.out.size))
  have HD := hide ho.sl
  clear ho hb0 hal hfl HLIT hb
  go_wp2_with fail
  refine (HG.out.derivative Dp dn dc (x ++ y) ii _ HD.out HWI.out).mono ?_
  rintro e w108 ⟨Ra, rn, rc, rfl, hs, hnw, hb⟩
  replace HX := hide (HX.out.below hb)
  replace HY := hide (HY.out.below hb)
  replace HP := hide (HP.out.below hb)
  replace BP := hide (BP.out.below hb BP.out.lt)
  replace HQ := hide (HQ.out.below hb)
  replace BQ := hide (BQ.out.below hb BQ.out.lt)
  replace HD := hide (HD.out.below hb)
  replace HW := hide (HW.out.trans (hb.mono HW.out.size))
  rw [HRC.out] at hs ⊢
  dsimp only at hs ⊢
  clear hnw
  have HRR := hide hs
  clear hb hs
  clear HD
  go_upto_region 6 with fail
  have hb : Below w108.heap.size w108 (w108.alloc (.cells #[.int .i64 (LP.canon RR).1, .slice Ra rn rc] 27)) := (Below.refl _ _).alloc (Nat.le_refl _) _
  have BR := hide (Blk.new w108 27 #[.int .i64 (LP.canon RR).1, .slice Ra rn rc])
  have n_b9_b13 : b9 < w108.heap.size := BP.out.lt
  have n_b11_b13 : b11 < w108.heap.size := BQ.out.lt
  have g_b13 := HW.out.size
  replace HX := hide (HX.out.below hb)
  replace HY := hide (HY.out.below hb)
  replace HP := hide (HP.out.below hb)
  replace BP := hide (BP.out.below hb BP.out.lt)
  replace HQ := hide (HQ.out.below hb)
  replace BQ := hide (BQ.out.below hb BQ.out.lt)
  replace HRR := hide (HRR.out.below hb)
  replace HW := hide (HW.out.trans (hb.mono HW.out.size))
  obtain ⟨b13, hq⟩ : ∃ q, w108.heap.size = q := ⟨_, rfl⟩
  obtain ⟨w109, hw⟩ : ∃ x, w108.alloc (.cells #[.int .i64 (LP.canon RR).1, .slice Ra rn rc] 27) = x := ⟨_, rfl⟩
  rw [hw] at BR HX HY HP BP HQ BQ HRR HW ⊢
  rw [hq] at BR n_b9_b13 n_b11_b13 g_b13 ⊢
  clear hb hw hq
  go_wp2_with fail
  refine (HG.out.exponent Xp xn xc x _ HX.out).mono ?_
  rintro e w110 ⟨rfl, hb⟩
  replace HX := hide (HX.out.below hb)
  replace HY := hide (HY.out.below hb)
  replace HP := hide (HP.out.below hb)
  replace BP := hide (BP.out.below hb BP.out.lt)
  replace HQ := hide (HQ.out.below hb)
  replace BQ := hide (BQ.out.below hb BQ.out.lt)
  replace HRR := hide (HRR.out.below hb)
  replace BR := hide (BR.out.below hb BR.out.lt)
  replace HW := hide (HW.out.trans (hb.mono HW.out.size))
  rw [HEX.out, show expV x = LP.expo x by unfold expV; rw [if_pos HEX.out]]
  clear hb
  have HXE := hide (LP.fox_sum (n := 6) (w := x) (fun a ha => by have := (ffault_zero HEX.out).2 a ha; omega))
  have HXL := hide (LP.expo_le x)
  have HCE := hide (LP.canon_term1 (LP.expo x))
  have hxe := HXL.out
  have hxl := HLX.out
  obtain ⟨en, hen⟩ : ∃ q, LP.expo x = q := ⟨_, rfl⟩
  rw [hen] at HR HXE HCE hxe ⊢
  have HEN := hide hen
  have hen1 : -30 ≤ en ∧ en ≤ 30 := by omega
  clear HXL hxe hxl hen
  go_upto_region 7 with fail
  have HEN1 := hide hen1
  clear hen1
  refine wp_region_noPanic ?_
  refine wp_region_held_drew (S := fun x => Below w110.heap.size w110 x) (by kernel_rfl) (Below.refl _ _).drew (fun hS0 => ?_)
  refine wpAnyH_1 0 rfl (by kernel_rfl) ?_
  refine wp_call [] rfl rfl eMultK rfl ((multiplied_k HF.out _).mono ?_)
  rintro e v1 ⟨rfl, hb⟩
  have hS1 := hS0.trans (hb.mono hS0.size)
  refine ⟨_, rfl, hS1, ?_⟩
  clear hb
  go_frame
  refine wpAnyH_tk 1 (v := .bool false) rfl (by kernel_rfl) (by kernel_rfl) (by kernel_rfl) (yi rfl fun w' hw' => gives_notE rfl rfl rfl) hS1 ?_
  go_frame
  refine wpAnyH_tk 2 (v := .bool false) rfl (by kernel_rfl) (by kernel_rfl) (by kernel_rfl) (yi rfl fun w' hw' => gives_move (.inl rfl) rfl) hS1 ?_
  go_frame
  refine wpAnyH_tk 3 (v := .int .i64 0) rfl (by kernel_rfl) (by kernel_rfl) (by kernel_rfl) (yi rfl fun w' hw' => gives_move (.inl rfl) rfl) hS1 ?_
  go_frame
  refine wpAnyH_tk 4 (v := .bool false) rfl (by kernel_rfl) (by kernel_rfl) (by kernel_rfl) (yi rfl fun w' hw' => gives_neqE rfl rfl rfl rfl) hS1 ?_
  go_frame
  refine wpAnyH_tk 5 (v := .bool false) rfl (by kernel_rfl) (by kernel_rfl) (by kernel_rfl) (yi rfl fun w' hw' => gives_pick rfl rfl rfl) hS1 ?_
  go_frame
  refine wpAnyH_tk 6 (v := .bool false) rfl (by kernel_rfl) (by kernel_rfl) (by kernel_rfl) (yi rfl fun w' hw' => gives_move (.inl rfl) rfl) hS1 ?_
  go_frame
  refine wpAnyH_tk 7 (v := .int .i64 0) rfl (by kernel_rfl) (by kernel_rfl) (by kernel_rfl) (yi rfl fun w' hw' => gives_move (.inl rfl) rfl) hS1 ?_
  go_frame
  refine wpAnyH_tk 8 (v := .bool false) rfl (by kernel_rfl) (by kernel_rfl) (by kernel_rfl) (yi rfl fun w' hw' => gives_neqE rfl rfl rfl rfl) hS1 ?_
  go_frame
  refine wpAnyH_tk 9 (v := .bool false) rfl (by kernel_rfl) (by kernel_rfl) (by kernel_rfl) (yi rfl fun w' hw' => gives_pick rfl rfl rfl) hS1 ?_
  go_frame
  refine wpAnyH_tk 10 (v := .bool false) rfl (by kernel_rfl) (by kernel_rfl) (by kernel_rfl) (yi rfl fun w' hw' => gives_move (.inl rfl) rfl) hS1 ?_
  go_frame
  refine wpAnyH_tk 11 (v := .int .i64 0) rfl (by kernel_rfl) (by kernel_rfl) (by kernel_rfl) (yi rfl fun w' hw' => gives_move (.inl rfl) rfl) hS1 ?_
  go_frame
  refine wpAnyH_tk 12 (v := .bool false) rfl (by kernel_rfl) (by kernel_rfl) (by kernel_rfl) (yi rfl fun w' hw' => gives_neqE rfl rfl rfl rfl) hS1 ?_
  go_frame
  refine wpAnyH_tk 13 (v := .bool false) rfl (by kernel_rfl) (by kernel_rfl) (by kernel_rfl) (yi rfl fun w' hw' => gives_pick rfl rfl rfl) hS1 ?_
  go_frame
  refine wpAnyH_tk 14 (v := .bool false) rfl (by kernel_rfl) (by kernel_rfl) (by kernel_rfl) (yi rfl fun w' hw' => gives_move (.inl rfl) rfl) hS1 ?_
  go_frame
  refine wpAnyH_tk 15 (v := .int .i64 0) rfl (by kernel_rfl) (by kernel_rfl) (by kernel_rfl) (yi rfl fun w' hw' => gives_move (.inl rfl) rfl) hS1 ?_
  go_frame
  refine wpAnyH_tk 16 (v := .bool false) rfl (by kernel_rfl) (by kernel_rfl) (by kernel_rfl) (yi rfl fun w' hw' => gives_neqE rfl rfl rfl rfl) hS1 ?_
  go_frame
  refine wpAnyH_tk 17 (v := .bool false) rfl (by kernel_rfl) (by kernel_rfl) (by kernel_rfl) (yi rfl fun w' hw' => gives_pick rfl rfl rfl) hS1 ?_
  go_frame
  refine wpAnyH_tk 18 (v := .bool false) rfl (by kernel_rfl) (by kernel_rfl) (by kernel_rfl) (yi rfl fun w' hw' => gives_move (.inl rfl) rfl) hS1 ?_
  go_frame
  refine wpAnyH_tk 19 (v := PV (LP.canon RR).1 Ra rn rc) rfl (by kernel_rfl) (by kernel_rfl) (by kernel_rfl) (yi rfl fun w' hw' => gives_loadRow rfl rfl (BR.out.below hw' BR.out.lt) Try.underlying27 (by kernel_rfl) (by kernel_rfl)) hS1 ?_
  go_frame
  refine wpAnyH_tk 20 (v := PV (LP.canon P).1 Pa pn pc) rfl (by kernel_rfl) (by kernel_rfl) (by kernel_rfl) (yi rfl fun w' hw' => gives_loadRow rfl rfl (BP.out.below hw' BP.out.lt) Try.underlying27 (by kernel_rfl) (by kernel_rfl)) hS1 ?_
  go_frame
  refine wpAnyH_tk 21 (v := .int .i64 en) rfl (by kernel_rfl) (by kernel_rfl) (by kernel_rfl) (yi rfl fun w' hw' => gives_move (.inl rfl) rfl) hS1 ?_
  go_frame
  refine wpAnyH_tk 24 (v := PV (LP.canon Q).1 Qa qn qc) rfl (by kernel_rfl) (by kernel_rfl) (by kernel_rfl) (yi rfl fun w' hw' => gives_loadRow rfl rfl (BQ.out.below hw' BQ.out.lt) Try.underlying27 (by kernel_rfl) (by kernel_rfl)) hS1 ?_
  go_frame
  have hl : SL (v1.alloc (.cells #[.int .i64 1] 3)) (some ⟨v1.heap.size, 0, none⟩) 1 1 [1] := SL.lit v1 [1] (by decide) rfl rfl
  have hlb : Below v1.heap.size v1 (v1.alloc (.cells #[.int .i64 1] 3)) := (Below.refl _ _).alloc (Nat.le_refl _) _
  refine wpAnyH_1g 22 rfl (by kernel_rfl) (by kernel_rfl) ?_
  refine wp_buildSlice_at (cells := #[.int .i64 1]) (l := [(0, .const (.int .i64 1))]) i0 _ 1 [(0, .int .i64 1)] rfl Try.underlying22 HI0.out HZ0.out HZ1.out (by decide) (by decide) rfl (by simp [Instr.fill, Value.cells, show Array.range (1 * 1) = #[0] from rfl]) ⟨hS1.trans (hlb.mono hS1.size), ?_⟩
  obtain ⟨bl, hbl⟩ : ∃ q, v1.heap.size = q := ⟨_, rfl⟩
  obtain ⟨v2, hv2⟩ : ∃ q, v1.alloc (.cells #[.int .i64 1] 3) = q := ⟨_, rfl⟩
  have hS2 := hS1.trans (hlb.mono hS1.size)
  rw [hv2] at hl hS2 ⊢
  rw [hbl] at hl ⊢
  clear hlb hbl hv2
  go_frame
  refine wpAnyH_tk 23 (v := PV en (some ⟨bl, 0, none⟩) 1 1) rfl (by kernel_rfl) (by kernel_rfl) (by kernel_rfl) (yi rfl fun w' hw' => gives_build [(0, .int .i64 en), (1, .slice (some ⟨bl, 0, none⟩) 1 1)] rfl rfl (by kernel_rfl)) hS2 ?_
  go_frame
  refine wpAnyH_1g 25 rfl (by kernel_rfl) (by kernel_rfl) ?_
  have CM := mul_c HF.out HR.out.rE HR.out.rQ HR.out.rEQ HR.out.e1 v2 (some ⟨bl, 0, none⟩) 1 1 Qa qn qc (by rw [HCE.out]; exact hl) (HQ.out.below hS2)
  rw [HCE.out] at CM
  refine wp_call [PV en (some ⟨bl, 0, none⟩) 1 1, PV (LP.canon Q).1 Qa qn qc] rfl rfl eMulK rfl (CM.mono ?_)
  rintro e v3 ⟨M, mn, mc, rfl, hs, _, hb⟩
  have hS3 := hS2.trans (hb.mono hS2.size)
  have SM := hide hs
  clear CM hs hb hl
  refine ⟨_, rfl, hS3, ?_⟩
  go_frame
  refine wpAnyH_1g 26 rfl (by kernel_rfl) (by kernel_rfl) ?_
  refine wp_call [PV (LP.canon P).1 Pa pn pc, PV (LP.canon EQ).1 M mn mc] rfl rfl eAddK rfl ((add_c HF.out HR.out.rP HR.out.rEQ HR.out.rR HR.out.e2 v3 Pa pn pc M mn mc (HP.out.below hS3) SM.out).mono ?_)
  rintro e v4 ⟨N, nn, nc, rfl, hs, _, hb⟩
  have hS4 := hS3.trans (hb.mono hS3.size)
  have SN := hide hs
  clear hs hb
  refine ⟨_, rfl, hS4, ?_⟩
  go_frame
  refine wpAnyH_1g 27 rfl (by kernel_rfl) (by kernel_rfl) ?_
  refine wp_call [PV (LP.canon RR).1 Ra rn rc, PV (LP.canon RR).1 N nn nc] rfl rfl eSameK rfl ((same_c RR v4 Ra rn rc N nn nc (HRR.out.below hS4) SN.out).mono ?_)
  rintro e v5 ⟨rfl, hb⟩
  have hS5 := hS4.trans (hb.mono hS4.size)
  clear hb
  refine ⟨_, rfl, hS5, ?_⟩
  go_frame
  refine wpAnyH_tk 28 (v := .bool false) rfl (by kernel_rfl) (by kernel_rfl) (by kernel_rfl) (yi rfl fun w' hw' => gives_notE rfl rfl rfl) hS5 ?_
  go_frame
  refine wpAnyH_tk 29 (v := .bool false) rfl (by kernel_rfl) (by kernel_rfl) (by kernel_rfl) (yi rfl fun w' hw' => gives_pick rfl rfl rfl) hS5 ?_
  go_frame
  refine wpAnyH_done (by kernel_rfl) (noPanic_mk ?_) _
  replace HX := hide (HX.out.below hS5)
  replace HW := hide (HW.out.trans (hS5.mono HW.out.size))
  clear hS0 hS1 hS2 hS3 hS4 hS5 HY HP BP HQ BQ HRR BR SM SN HRX HRY HRC
  go_upto_region 10 with fail
  have hTP : LP.part x 6 = T := by rw [HXE.out, HR.out.e3]
  have HTP := hide hTP
  have sA : SL (v5.alloc (.cells #[.int .i64 1] 3)) (some ⟨v5.heap.size, 0, none⟩) 1 1 [1] := SL.lit v5 [1] (by decide) rfl rfl
  have bA : Below v5.heap.size v5 (v5.alloc (.cells #[.int .i64 1] 3)) := (Below.refl _ _).alloc (Nat.le_refl _) _
  have zA : (v5.alloc (.cells #[.int .i64 1] 3)).heap.size = v5.heap.size + 1 := by simp
  obtain ⟨wA, hA⟩ : ∃ q, v5.alloc (.cells #[.int .i64 1] 3) = q := ⟨_, rfl⟩
  rw [hA] at sA bA zA ⊢
  have sB : SL (wA.alloc (.cells #[.int .i64 1] 3)) (some ⟨wA.heap.size, 0, none⟩) 1 1 [1] := SL.lit wA [1] (by decide) rfl rfl
  have bB : Below wA.heap.size wA (wA.alloc (.cells #[.int .i64 1] 3)) := (Below.refl _ _).alloc (Nat.le_refl _) _
  have zB : (wA.alloc (.cells #[.int .i64 1] 3)).heap.size = v5.heap.size + 1 + 1 := by simp [zA]
  obtain ⟨wB, hB⟩ : ∃ q, wA.alloc (.cells #[.int .i64 1] 3) = q := ⟨_, rfl⟩
  rw [hB] at sB bB zB ⊢
  rw [zA] at sB
  replace sA := sA.below bB
  have BC := Blk.new wB 27 #[.int .i64 0, .slice (some ⟨v5.heap.size, 0, none⟩) 1 1]
  have bC : Below wB.heap.size wB (wB.alloc (.cells #[.int .i64 0, .slice (some ⟨v5.heap.size, 0, none⟩) 1 1] 27)) := (Below.refl _ _).alloc (Nat.le_refl _) _
  have zC : (wB.alloc (.cells #[.int .i64 0, .slice (some ⟨v5.heap.size, 0, none⟩) 1 1] 27)).heap.size = v5.heap.size + 1 + 1 + 1 := by simp [zB]
  obtain ⟨wC, hC⟩ : ∃ q, wB.alloc (.cells #[.int .i64 0, .slice (some ⟨v5.heap.size, 0, none⟩) 1 1] 27) = q := ⟨_, rfl⟩
  rw [hC] at BC bC zC ⊢
  replace sA := sA.below bC
  replace sB := sB.below bC
  rw [zB] at BC
  have BD := Blk.new wC 27 #[.int .i64 1, .slice (some ⟨v5.heap.size + 1, 0, none⟩) 1 1]
  have bD : Below wC.heap.size wC (wC.alloc (.cells #[.int .i64 1, .slice (some ⟨v5.heap.size + 1, 0, none⟩) 1 1] 27)) := (Below.refl _ _).alloc (Nat.le_refl _) _
  obtain ⟨wD, hD⟩ : ∃ q, wC.alloc (.cells #[.int .i64 1, .slice (some ⟨v5.heap.size + 1, 0, none⟩) 1 1] 27) = q := ⟨_, rfl⟩
  rw [hD] at BD bD ⊢
  replace BC := BC.below bD BC.lt
  rw [zC] at BD
  replace sA := sA.below bD
  replace sB := sB.below bD
  have hb : Below v5.heap.size v5 wD := bA.trans ((bB.mono bA.size).trans ((bC.mono (bA.trans (bB.mono bA.size)).size).trans (bD.mono (bA.trans ((bB.mono bA.size).trans (bC.mono (bA.trans (bB.mono bA.size)).size))).size)))
  replace HX := hide (HX.out.below hb)
  replace HW := hide (HW.out.trans (hb.mono HW.out.size))
  generalize v5.heap.size = sz at *
  obtain ⟨b18, hq⟩ : ∃ q, sz + 1 + 1 + 1 = q := ⟨_, rfl⟩
  rw [hq] at BD ⊢
  clear hq
  obtain ⟨b17, hq⟩ : ∃ q, sz + 1 + 1 = q := ⟨_, rfl⟩
  rw [hq] at BC ⊢
  clear hq
  obtain ⟨sy, hq⟩ : ∃ q, sz + 1 = q := ⟨_, rfl⟩
  rw [hq] at sB BD ⊢
  clear hq
  have SA := hide sA
  have SB := hide sB
  have B17 := hide BC
  have B18 := hide BD
  clear hA hB hC hD bA bB bC bD zA zB zC sA sB BC BD hb hTP HXE
  have B17A := hide (B17.out.alloc (.cells #[.int .i64 1] 3))
  have hz0 := B17A.out.cell 0
  have hz1 := B17A.out.cell 1
  simp at hz0 hz1
  clear B17A
  go_wp2_with fail
  have hl : SL (wD.alloc (.cells #[.int .i64 1] 3)) (some ⟨wD.heap.size, 0, none⟩) 1 1 [1] := SL.lit wD [1] (by decide) rfl rfl
  have hlb : Below wD.heap.size wD (wD.alloc (.cells #[.int .i64 1] 3)) := (Below.refl _ _).alloc (Nat.le_refl _) _
  have CS := sub_c HF.out HR.out.rE rt_one HR.out.rT HR.out.e3 (wD.alloc (.cells #[.int .i64 1] 3)) (some ⟨wD.heap.size, 0, none⟩) 1 1 (some ⟨sz, 0, none⟩) 1 1 (by rw [HCE.out]; exact hl) (by rw [canon_1]; exact SA.out.below hlb)
  rw [HCE.out, canon_1] at CS
  dsimp only at CS
  refine CS.mono ?_
  rintro e w201 ⟨La, ln, lc, rfl, hs, hnw, hb⟩
  dsimp only at hs ⊢
  replace hb := hlb.trans (hb.mono hlb.size)
  replace HX := hide (HX.out.below hb)
  replace SA := hide (SA.out.below hb)
  replace SB := hide (SB.out.below hb)
  replace B17 := hide (B17.out.below hb B17.out.lt)
  replace B18 := hide (B18.out.below hb B18.out.lt)
  replace HW := hide (HW.out.trans (hb.mono HW.out.size))
  have SLf := hide hs
  clear hb hs hnw hl hlb CS hz0 hz1
  go_upto_region 11 with fail
  have hb : Below w201.heap.size w201 (w201.alloc (.cells #[.int .i64 (LP.canon T).1, .slice La ln lc] 27)) := (Below.refl _ _).alloc (Nat.le_refl _) _
  have BL := hide (Blk.new w201 27 #[.int .i64 (LP.canon T).1, .slice La ln lc])
  have g_b19 := HW.out.size
  replace HX := hide (HX.out.below hb)
  replace SA := hide (SA.out.below hb)
  replace SB := hide (SB.out.below hb)
  replace B17 := hide (B17.out.below hb B17.out.lt)
  replace B18 := hide (B18.out.below hb B18.out.lt)
  replace SLf := hide (SLf.out.below hb)
  replace HW := hide (HW.out.trans (hb.mono HW.out.size))
  obtain ⟨b19, hq⟩ : ∃ q, w201.heap.size = q := ⟨_, rfl⟩
  obtain ⟨w202, hw⟩ : ∃ x, w201.alloc (.cells #[.int .i64 (LP.canon T).1, .slice La ln lc] 27) = x := ⟨_, rfl⟩
  rw [hw] at BL HX SA SB B17 B18 SLf HW ⊢
  rw [hq] at BL g_b19 ⊢
  clear hb hw hq
  have hz0 := B17.out.cell 0
  have hz1 := B17.out.cell 1
  simp at hz0 hz1
  have hy0 := B18.out.cell 0
  have hy1 := B18.out.cell 1
  simp at hy0 hy1
  go_wp2_with fail
  have CS := sub_c HF.out rt_t rt_one rt_less (show LP.term 1 1 + -1 = LP.less from rfl) w202 (some ⟨sy, 0, none⟩) 1 1 (some ⟨sz, 0, none⟩) 1 1 (by rw [LP.canon_term1]; exact SB.out) (by rw [canon_1]; exact SA.out)
  rw [LP.canon_term1, canon_1] at CS
  dsimp only at CS
  refine CS.mono ?_
  rintro e w203 ⟨Ea, e1, ec, rfl, hs, hnw, hb⟩
  dsimp only at hs ⊢
  replace HX := hide (HX.out.below hb)
  replace SA := hide (SA.out.below hb)
  replace SB := hide (SB.out.below hb)
  replace B17 := hide (B17.out.below hb B17.out.lt)
  replace B18 := hide (B18.out.below hb B18.out.lt)
  replace SLf := hide (SLf.out.below hb)
  replace BL := hide (BL.out.below hb BL.out.lt)
  replace HW := hide (HW.out.trans (hb.mono HW.out.size))
  have SE := hide hs
  clear hb hs hnw CS hz0 hz1 hy0 hy1
  go_upto_region 12 with fail
  have hb : Below w203.heap.size w203 (w203.alloc (.cells #[.int .i64 (LP.canon LP.less).1, .slice Ea e1 ec] 27)) := (Below.refl _ _).alloc (Nat.le_refl _) _
  have BE := hide (Blk.new w203 27 #[.int .i64 (LP.canon LP.less).1, .slice Ea e1 ec])
  have n_b19_b21 : b19 < w203.heap.size := BL.out.lt
  have g_b21 := HW.out.size
  replace HX := hide (HX.out.below hb)
  replace SA := hide (SA.out.below hb)
  replace SB := hide (SB.out.below hb)
  replace B17 := hide (B17.out.below hb B17.out.lt)
  replace B18 := hide (B18.out.below hb B18.out.lt)
  replace SLf := hide (SLf.out.below hb)
  replace BL := hide (BL.out.below hb BL.out.lt)
  replace SE := hide (SE.out.below hb)
  replace HW := hide (HW.out.trans (hb.mono HW.out.size))
  obtain ⟨b21, hq⟩ : ∃ q, w203.heap.size = q := ⟨_, rfl⟩
  obtain ⟨w204, hw⟩ : ∃ x, w203.alloc (.cells #[.int .i64 (LP.canon LP.less).1, .slice Ea e1 ec] 27) = x := ⟨_, rfl⟩
  rw [hw] at BE HX SA SB B17 B18 SLf BL SE HW ⊢
  rw [hq] at BE n_b19_b21 g_b21 ⊢
  clear hb hw hq
  clear SA SB B17 B18 HR
  have ix := HX.out.inside
  have il := SLf.out.inside
  have ie := SE.out.inside
  go_upto_region 13 with fail
  have hb : Below w204.heap.size w204 (w204.alloc (.cells #[.int .i64 0, .slice none 0 0] 27)) := (Below.refl _ _).alloc (Nat.le_refl _) _
  have BS := hide (Blk.new w204 27 #[.int .i64 0, .slice none 0 0])
  have n_b19_b23 : b19 < w204.heap.size := BL.out.lt
  have n_b21_b23 : b21 < w204.heap.size := BE.out.lt
  have g_b23 := HW.out.size
  replace HX := hide (HX.out.below hb)
  replace SLf := hide (SLf.out.below hb)
  replace BL := hide (BL.out.below hb BL.out.lt)
  replace SE := hide (SE.out.below hb)
  replace BE := hide (BE.out.below hb BE.out.lt)
  replace HW := hide (HW.out.trans (hb.mono HW.out.size))
  obtain ⟨b23, hq⟩ : ∃ q, w204.heap.size = q := ⟨_, rfl⟩
  obtain ⟨w205, hw⟩ : ∃ x, w204.alloc (.cells #[.int .i64 0, .slice none 0 0] 27) = x := ⟨_, rfl⟩
  rw [hw] at BS HX SLf BL SE BE HW ⊢
  rw [hq] at BS ix il ie n_b19_b23 n_b21_b23 g_b23 ⊢
  clear hb hw hq
  have IX : Hid (0 < xn → ∀ ad, Xp = some ad → ad.block ≠ b23) := hide (fun h ad e => by have := ix h ad e; omega)
  have IL : Hid (0 < ln → ∀ ad, La = some ad → ad.block ≠ b23) := hide (fun h ad e => by have := il h ad e; omega)
  have IE : Hid (0 < e1 → ∀ ad, Ea = some ad → ad.block ≠ b23) := hide (fun h ad e => by have := ie h ad e; omega)
  have NB : Hid (b19 < b23 ∧ b21 < b23 ∧ w.heap.size ≤ b23) := hide ⟨n_b19_b23, n_b21_b23, g_b23⟩
  have HI : Hid (RulI w x T Xp xn xc b19 b21 b23 La ln lc Ea e1 ec w205 0 none 0 0) := hide ⟨HX.out, BL.out, SLf.out, BE.out, SE.out, by show Blk _ _ _ #[.int .i64 (LP.canon 0).1, _]; rw [LP.canon_zero]; exact BS.out, by show SL _ _ _ _ (LP.canon 0).2; rw [LP.canon_zero]; exact SL.nil_ _, fun h => absurd h (by omega), HW.out⟩
  clear ix il ie HX BL SLf BE SE BS HW n_b19_b21 n_b19_b23 n_b21_b23 g_b19 g_b21 g_b23
  go_wp2_with fail
  go_loopw [24] (fun iv wr => ∃ (k : Nat) (kk : Int) (Sa : Option Addr) (sn sc : Nat), Hid (kk = (k : Int) + 1) ∧ 1 ≤ kk ∧ kk ≤ 7 ∧ iv = .int .i64 kk ∧ Hid (RulI w x T Xp xn xc b19 b21 b23 La ln lc Ea e1 ec wr k Sa sn sc)) (fun iv _ => 8 - (intOf iv).toNat)
  case atStart => exact ⟨0, 1, none, 0, 0, hide rfl, by omega, by omega, rfl, HI⟩
  case round =>
    clear HI
    obtain ⟨k, kk, Sa, sn, sc, HKK, hk1, hk7, rfl, HI⟩ := hrel
    have HK1 := hide hk1
    have HK7 := hide hk7
    by_cases hlt : kk ≤ 6
    · have HFK := hide (foxR_ok HEX.out (i := kk) (by omega) (by omega))
      have hwf : (Lit.int .i64 kk).wf = true := wfI (by omega)
      have HWF := hide hwf
      clear hwf
      have hk6 : k + 1 ≤ 6 := by have := HKK.out; omega
      have HRF := hide (LP.foxT_rt kk (w := x) (by have := (ffault_zero HEX.out).1; omega))
      have HRL := hide (LP.less_rt kk (w := x) (by have := (ffault_zero HEX.out).1; omega))
      have HRP := hide (LP.part_rt x HLX.out (k := k) (by omega))
      have HRQ := hide (LP.part_rt x HLX.out (k := k + 1) (by omega))
      have HSTEP : Hid (LP.part x k + LP.foxT kk x * LP.less = LP.part x (k + 1)) := hide (by rw [HKK.out]; rfl)
      have hd : decide (kk ≤ 6) = true := by simpa using hlt
      have HLT := hide hlt
      clear hlt hk1 hk7 hk6
      go_wp2_with fail
      refine (HG.out.derivative Xp xn xc x _ _ HI.out.hx HWF.out).mono ?_
      rintro e u1 ⟨Da, dn, dc, rfl, hs, hnw, hb⟩
      rw [HFK.out] at hs ⊢
      dsimp only at hs ⊢
      replace HI := hide (HI.out.below hb)
      have SD := hide hs
      clear hb hs hnw
      generalize LP.foxT kk x = DD at *
      clear hd
      go_upto_region 17 with fail
      have hb : Below u1.heap.size u1 (u1.alloc (.cells #[.int .i64 (LP.canon DD).1, .slice Da dn dc] 27)) := (Below.refl _ _).alloc (Nat.le_refl _) _
      have BDD := hide (Blk.new u1 27 #[.int .i64 (LP.canon DD).1, .slice Da dn dc])
      replace HI := hide (HI.out.below hb)
      replace SD := hide (SD.out.below hb)
      obtain ⟨b25, hq⟩ : ∃ q, u1.heap.size = q := ⟨_, rfl⟩
      obtain ⟨W, hw⟩ : ∃ x, u1.alloc (.cells #[.int .i64 (LP.canon DD).1, .slice Da dn dc] 27) = x := ⟨_, rfl⟩
      rw [hw] at BDD HI SD ⊢
      rw [hq] at BDD ⊢
      clear hb hw hq
      go_upto_region 19 with fail
      refine wp_region_T (S := fun x => Below W.heap.size W x) 5 (by kernel_rfl) (Below.refl _ _).drew (fun hS0 => ?_)
      refine wpT_tk 0 (v := PV (LP.canon (LP.part x k)).1 Sa sn sc) rfl (by kernel_rfl) (by kernel_rfl) (by kernel_rfl) (by kernel_rfl) (yi rfl fun w' hw' => gives_loadRow rfl rfl (HI.out.b23.below hw' HI.out.b23.lt) Try.underlying27 (by kernel_rfl) (by kernel_rfl)) hS0 ?_
      go_frame
      refine wpT_tk 1 (v := PV (LP.canon DD).1 Da dn dc) rfl (by kernel_rfl) (by kernel_rfl) (by kernel_rfl) (by kernel_rfl) (yi rfl fun w' hw' => gives_loadRow rfl rfl (BDD.out.below hw' BDD.out.lt) Try.underlying27 (by kernel_rfl) (by kernel_rfl)) hS0 ?_
      go_frame
      refine wpT_tk 2 (v := PV (LP.canon LP.less).1 Ea e1 ec) rfl (by kernel_rfl) (by kernel_rfl) (by kernel_rfl) (by kernel_rfl) (yi rfl fun w' hw' => gives_loadRow rfl rfl (HI.out.b21.below hw' HI.out.b21.lt) Try.underlying27 (by kernel_rfl) (by kernel_rfl)) hS0 ?_
      go_frame
      refine wpT_1 3 rfl (by kernel_rfl) ?_
      refine wp_call [PV (LP.canon DD).1 Da dn dc, PV (LP.canon LP.less).1 Ea e1 ec] rfl rfl eMulK rfl ((mul_c HF.out HRF.out rt_less HRL.out rfl _ Da dn dc Ea e1 ec (SD.out.below hS0) (HI.out.se.below hS0)).mono ?_)
      rintro e v1 ⟨M, mn, mc, rfl, hs, _, hb⟩
      have hS1 := hS0.trans (hb.mono hS0.size)
      have SM := hide hs
      clear hb hs
      refine ⟨_, rfl, fun _ => hS1, ?_⟩
      go_frame
      refine wpT_1 4 rfl (by kernel_rfl) ?_
      refine wp_call [PV (LP.canon (LP.part x k)).1 Sa sn sc, PV (LP.canon (DD * LP.less)).1 M mn mc] rfl rfl eAddK rfl ((add_c HF.out HRP.out HRL.out HRQ.out HSTEP.out v1 Sa sn sc M mn mc (HI.out.ss.below hS1) SM.out).mono ?_)
      rintro e v2 ⟨N, nn, nc, rfl, hs, hnw, hb⟩
      have hS2 := hS1.trans (hb.mono hS1.size)
      have hbl := HI.out.b23.lt
      have NN : Hid (0 < nn → ∀ ad, N = some ad → ad.block ≠ b23) := hide (fun h ad e => by have := hnw h ad e; have := hS1.size; have := hS0.size; omega)
      have SN := hide hs
      clear hb hs hnw hbl
      refine ⟨_, rfl, fun _ => hS2, ?_⟩
      go_frame
      refine wpT_1 5 rfl (by kernel_rfl) ?_
      refine wp_storeRow rfl rfl rfl (HI.out.b23.below hS2 HI.out.b23.lt) (by kernel_rfl) rfl (by kernel_rfl) ⟨fun h => absurd rfl h, ?_⟩
      replace HI := hide ((HI.out.below hS2).store SN.out NN.out IX.out IL.out IE.out NB.out)
      obtain ⟨V, hV⟩ : ∃ q, v2.setRow b23 #[.int .i64 (LP.canon (LP.part x (k + 1))).1, .slice N nn nc] = q := ⟨_, rfl⟩
      rw [hV] at HI ⊢
      clear hV hS0 hS1 hS2
      go_frame
      refine wpT_done (by kernel_rfl) (noPanic_mk ?_) _
      have hk1 := HK1.out
      have hlt := HLT.out
      go_wp2_with fail
      go_roundw
      case rel => exact ⟨k + 1, kk + 1, N, nn, nc, hide (by rw [HKK.out]; omega), by omega, by omega, by go_num, HI⟩
      case measure => simp [intOf]; omega
    · obtain rfl : k = 6 := by have := HKK.out; omega
      have hd : decide (kk ≤ 6) = false := by simpa using hlt
      clear hlt hk1 hk7
      have hI := HI.out.b23
      have hs := HI.out.ss
      rw [HTP.out] at hI hs
      have BT := hide hI
      have ST := hide hs
      clear hI hs
      have hz0 := BT.out.cell 0
      have hz1 := BT.out.cell 1
      simp at hz0 hz1
      have hy0 := HI.out.b19.cell 0
      have hy1 := HI.out.b19.cell 1
      simp at hy0 hy1
      go_wp2_with fail
      refine (same_c T _ La ln lc Sa sn sc HI.out.sl ST.out).mono ?_
      rintro e wz ⟨rfl, hb⟩
      have HZ := hide (HI.out.bw.trans (hb.mono HI.out.bw.size))
      clear hb hz0 hz1 hy0 hy1
      go_wp2_with fail
      go_ret
      exact ⟨rfl, HZ.out⟩
end Go.Proofs.Ytllalncbajpodaa
/- A sketch for a package that reduces words by pushing and popping (shape: r[:n-1] or append). -/
namespace Go.Proofs.Ytllalncbajpodaa
set_option linter.unusedVariables false
set_option linter.unusedSimpArgs false
open Go.RowKit

theorem snc_pop {L : List Int} {x : Int} {m : Nat} (hl : L.length = m) (hm : 0 < m) (h : L.getD (m - 1) 0 = -x) : snc L x = L.take (m - 1) := by
  have hne : L ≠ [] := fun e => by rw [e] at hl; simp at hl; omega
  obtain ⟨C, g, rfl⟩ : ∃ C g, L = C ++ [g] := ⟨L.dropLast, L.getLast hne, (List.dropLast_concat_getLast hne).symm⟩
  subst hl
  rw [getD_last] at h
  simp [snc, h]
theorem snc_push {L : List Int} {x : Int} {m : Nat} (hl : L.length = m) (h : m = 0 ∨ L.getD (m - 1) 0 ≠ -x) : snc L x = L ++ [x] := by
  rcases Nat.eq_zero_or_pos m with h0 | h0
  · obtain rfl : L = [] := List.eq_nil_of_length_eq_zero (by omega)
    rfl
  · have hne : L ≠ [] := fun e => by rw [e] at hl; simp at hl; omega
    obtain ⟨C, g, rfl⟩ : ∃ C g, L = C ++ [g] := ⟨L.dropLast, L.getLast hne, (List.dropLast_concat_getLast hne).symm⟩
    subst hl
    rw [getD_last] at h
    have hg : g ≠ -x := by
      rcases h with h | h
      · simp at h
      · exact h
    have hg2 : ¬ x = -g := by omega
    simp [snc, hg, hg2]
theorem snc_mem {L : List Int} {x y : Int} (h : y ∈ snc L x) : y ∈ L ∨ y = x := by
  by_cases hm : L.length = 0 ∨ L.getD (L.length - 1) 0 ≠ -x
  · rw [snc_push rfl hm] at h
    simpa using h
  · have h1 : 0 < L.length ∧ L.getD (L.length - 1) 0 = -x := by
      constructor
      · rcases Nat.eq_zero_or_pos L.length with h0 | h0
        · exact absurd (.inl h0) hm
        · exact h0
      · by_cases h2 : L.getD (L.length - 1) 0 = -x
        · exact h2
        · exact absurd (.inr h2) hm
    rw [snc_pop rfl h1.1 h1.2] at h
    exact .inl (List.mem_of_mem_take h)
theorem foldl_snc_mem {y : Int} : ∀ (xs L : List Int), y ∈ xs.foldl snc L → y ∈ L ∨ y ∈ xs
  | [], L, h => .inl h
  | x :: t, L, h => by
    rcases foldl_snc_mem t (snc L x) h with h | h
    · rcases snc_mem h with h | h
      · exact .inl h
      · exact .inr (by simp [h])
    · exact .inr (by simp [h])

end Go.Proofs.Ytllalncbajpodaa
