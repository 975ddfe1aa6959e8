/- Several texts in one. -/
import Derived.Test.YtndgffiihbdppaaPart12
import Derived.Test.YtndgffiihbdppaaPart1
import Derived.Test.YtndgffiihbdppaaBase1
import Derived.Lib.SliceRun
import Derived.Test.YtndgffiihbdppaaPart3
import Derived.Laws.EntriesVeiled
/- Package jones: Polynomial. -/
namespace Go.Proofs.Ytndgffiihbdppaa
set_option linter.unusedVariables false
set_option linter.unusedSimpArgs false
open Go.RowKit Go.Maps

theorem eLMul : ∀ args w, (callFunc 51 args).run Try.prog w = .ok (.enter 51 args) w := enters (fn := Try.f51) (by kernel_rfl) (by kernel_rfl) (by kernel_rfl)
set_option maxRecDepth 100000 in
set_option maxHeartbeats 4000000 in
theorem jpoly_any (F : PolyC) (G : TlC) (B : BraidC) (m : Int) (A : Option Addr) (n c : Nat) (xs : List Int) (w : World) (ha : SL w A n c xs) (hm : (Lit.int .i64 m).wf = true) :
    Calls Try.prog 17 #[.int .i64 m, .slice A n c] w (GivesPE w (joE m xs, (LP.canon (joP m xs)).1, (LP.canon (joP m xs)).2)) := by
  obtain ⟨z, hz⟩ : ∃ y, joE m xs = y := ⟨_, rfl⟩
  obtain ⟨q, hq⟩ : ∃ y, joP m xs = y := ⟨_, rfl⟩
  obtain ⟨p, hp⟩ : ∃ y, joB m xs = y := ⟨_, rfl⟩
  rw [hz, hq]
  have hk0 := Blk.new w 36 #[.int .i64 0, .slice none 0 0]
  have hb0 : Below w.heap.size w (w.alloc (.cells #[.int .i64 0, .slice none 0 0] 36)) := (Below.refl _ _).alloc (Nat.le_refl _) _
  have hz0 : (w.alloc (.cells #[.int .i64 0, .slice none 0 0] 36)).heap.size = w.heap.size + 1 := by simp
  have hbr := jbracket_any F G B m A n c xs _ (ha.below hb0) hm
  rw [hz, hp] at hbr
  have HBR := hide hbr
  have HJE := hide hz
  have HJP := hide hq
  have HJB := hide hp
  have HA := hide ha
  have HK0 := hide hk0
  have HB0 := hide hb0
  have HZ0 := hide hz0
  have HLN := hide ha.il.len
  clear ha hk0 hb0 hz0 hbr hz hq hp
  go_enter Try.func17, Try.ntmps17
  go_wp2_with fail
  refine HBR.out.mono ?_
  rintro e w1 ⟨A1, n1, c1, rfl, hs1, hn1, hb1⟩
  generalize w.alloc (.cells #[.int .i64 0, .slice none 0 0] 36) = wa at *
  obtain ⟨l1, hl1⟩ : ∃ y, (LP.canon p).1 = y := ⟨_, rfl⟩
  have hzz := HZ0.out
  have hb2 : Below w1.heap.size w1 (w1.alloc (.cells #[.int .i64 l1, .slice A1 n1 c1] 36)) := (Below.refl _ _).alloc (Nat.le_refl _) _
  have hk1 := (HK0.out.below hb1 (by omega)).below hb2 (by have := hb1.size; omega)
  have K1 := hide hk1
  have B1 := hide ((HB0.out.trans (hb1.mono (by omega))).trans (hb2.mono (by have := hb1.size; omega)))
  have Z1 := hide (show w.heap.size + 1 ≤ w1.heap.size by have := hb1.size; omega)
  have S1 := hide (show SL (w1.alloc (.cells #[.int .i64 l1, .slice A1 n1 c1] 36)) A1 n1 c1 (LP.canon p).2 from hs1.below hb2)
  have K6 := hide (Blk.new w1 36 #[.int .i64 l1, .slice A1 n1 c1])
  have ZW := hide (show (w1.alloc (.cells #[.int .i64 l1, .slice A1 n1 c1] 36)).heap.size = w1.heap.size + 1 by simp)
  have q0 := hk1.cell 0
  have q1 := hk1.cell 1
  have q2 := hk1.frozen 0
  have q3 := hk1.frozen 1
  simp at q0 q1
  clear hb1 hzz HK0 HB0 HZ0 HBR hk1 hb2 hs1 hn1
  clear wa
  simp only [hl1]
  have HL1 := hide hl1
  clear hl1
  go_upto_region 2 with fail
  generalize w1.alloc (.cells #[.int .i64 l1, .slice A1 n1 c1] 36) = w2 at *
  generalize w1.heap.size = b6 at *
  by_cases hf : z = 0
  · subst hf
    have hj := HJE.out
    have hbf : bfault m xs = 0 ∧ ¬ 12 < xs.length := by
      unfold joE at hj
      by_cases h : bfault m xs = 0
      · rw [if_neg (by simp [h])] at hj
        by_cases h2 : 12 < xs.length
        · rw [if_pos h2] at hj; omega
        · exact ⟨h, h2⟩
      · rw [if_pos h] at hj; exact absurd hj h
    obtain ⟨h1, h6, h30, hlet⟩ := bfault_zero hbf.1
    obtain ⟨N, hN⟩ : ∃ N : Nat, m = (N : Int) := ⟨m.toNat, by omega⟩
    subst hN
    have h1 : 1 ≤ N := by omega
    have h6 : N ≤ 6 := by omega
    have hlet' : ∀ y ∈ xs, y ≠ 0 ∧ y.natAbs < N := fun y hy => by have := hlet y hy; omega
    have hl12 : xs.length ≤ 12 := by omega
    have hpe : p = brk N xs := by rw [← HJB.out]; unfold joB; rw [if_pos hj, Int.toNat_natCast]
    have hqe : q = jon N xs := by rw [← HJP.out]; unfold joP; rw [if_pos hj, Int.toNat_natCast]
    subst hpe; subst hqe
    have hrb : LP.Rt (brk N xs) := (brk_n1 h1 h6 hlet' hl12).rt (by omega) (by have := Nat.pow_le_pow_right (show 0 < 3 by omega) hl12; have : 3 ^ 12 = 531441 := (by decide); omega)
    have hrj := jon_rt h1 h6 hlet' hl12
    have hex := LP.expo_le xs
    obtain ⟨ex, hexe⟩ : ∃ y, LP.expo xs = y := ⟨_, rfl⟩
    have HEX := hide (B.expo (N : Int) A n c xs w2 (HA.out.below B1.out) hm)
    have hev : expoB (N : Int) xs = ex := by unfold expoB; rw [if_pos hbf.1, hexe]
    rw [hev, hbf.1] at HEX
    have hjd : jon N xs = brk N xs * LP.term (-3 * ex) (if ex % 2 = 0 then 1 else -1) := by unfold jon; rw [hexe]
    rw [hexe] at hex
    have HJD := hide hjd
    have HRB := hide hrb
    have HRJ := hide hrj
    have HE12 := hide (show ex.natAbs ≤ 12 by omega)
    clear hjd hrb hrj hex hexe hev hlet hlet' h30 hbf hj HJE HJP HJB
    go_wp2_with fail
    refine HEX.out.mono ?_
    rintro e w3 ⟨rfl, hb3⟩
    -- BEGIN
    have hl1 := K6.out.lt
    have z1 := Z1.out
    have hw2 : b6 + 1 ≤ w2.heap.size := by omega
    have K13 := hide (K1.out.below hb3 (by omega))
    have K63 := hide (K6.out.below hb3 hl1)
    have S3 := hide (S1.out.below hb3)
    have B3 := hide (B1.out.trans (hb3.mono (by omega)))
    have Z3 := hide (show b6 + 1 ≤ w3.heap.size by have := hb3.size; omega)
    clear hb3 K1 K6 S1 B1 HEX hw2 q0 q1 q2 q3 HA
    have hw := HE12.out
    have hnm : (ex.tmod 2).natAbs = ex.natAbs % 2 := Int.natAbs_tmod ex 2
    have fm : IntKind.i64.wrap (ex.tmod 2) = ex.tmod 2 := by
      generalize ex.tmod 2 = t at hnm ⊢
      rw [IntKind.wrap_i64]; omega
    have hmul : IntKind.i64.wrap (-3 * ex) = -3 * ex := by rw [IntKind.wrap_i64]; omega
    by_cases hpar : ex % 2 = 0
    · have f2 : (ex.tmod 2 != 0) = false := by
        have : ex.tmod 2 = 0 := by
          generalize ex.tmod 2 = t at hnm ⊢
          omega
        simpa using this
      have hjd := HJD.out
      rw [if_pos hpar] at hjd
      have HJD2 := hide hjd
      clear hjd hpar
      go_upto_region 8 with fail
      clear f2 fm hnm
      have hl6 := K63.out.lt
      have HT := hide (fun (w' : World) => jterm_any 1 (-3 * ex) w' (.inl rfl))
      have hrt : LP.Rt (LP.term (-3 * ex) 1) := term_rt (by omega) (by decide)
      have HM := hide (fun (w' : World) (hb : Below w3.heap.size w3 w') (B2 : Option Addr) (m2 d2 : Nat) (hs : SL w' B2 m2 d2 (LP.canon (LP.term (-3 * ex) 1)).2) => by
        have h := F.mul (LP.canon (brk N xs)).1 A1 n1 c1 (LP.canon (brk N xs)).2 (LP.canon (LP.term (-3 * ex) 1)).1 B2 m2 d2 (LP.canon (LP.term (-3 * ex) 1)).2 w' (S3.out.below hb) hs HRB.out.wf hrt.wf
        rw [LP.mulR_canon HRB.out hrt (by rw [← HJD2.out]; exact HRJ.out), ← HJD2.out, HL1.out] at h
        exact h)
      refine wp_region_noPanic ?_
      refine wp_region_held_drew (S := fun z => Blk z b6 36 #[.int .i64 l1, .slice A1 n1 c1]) (by kernel_rfl) (K63.out.below (Below.refl _ _).drew hl6) (fun hS => ?_)
      have hD : Below w3.heap.size w3 w3.drew := (Below.refl _ _).drew
      refine wpAnyH_tk 0 (v := PV l1 A1 n1 c1) rfl (by kernel_rfl) (by kernel_rfl) (by kernel_rfl) (yi rfl fun w' hw' => gives_loadRow rfl rfl hw' Try.underlying36 (by kernel_rfl) (by kernel_rfl)) hS ?_
      go_frame
      refine wpAnyH_tk 1 (v := .int .i64 1) rfl (by kernel_rfl) (by kernel_rfl) (by kernel_rfl) (yi rfl fun w' hw' => gives_move (.inl rfl) rfl) hS ?_
      go_frame
      refine wpAnyH_tk 2 (v := .int .i64 ex) rfl (by kernel_rfl) (by kernel_rfl) (by kernel_rfl) (yi rfl fun w' hw' => gives_move (.inl rfl) rfl) hS ?_
      go_frame
      refine wpAnyH_tk 3 (v := .int .i64 (-3 * ex)) rfl (by kernel_rfl) (by kernel_rfl) (by kernel_rfl) (yi rfl fun w' hw' => gives_mul rfl rfl rfl hmul) hS ?_
      go_frame
      refine wpAnyH_1 4 rfl (by kernel_rfl) ?_
      refine wp_call (l := [.tmp 31, .tmp 33]) [.int .i64 1, .int .i64 (-3 * ex)] rfl rfl eJterm rfl ?_
      refine (HT.out _).mono ?_
      rintro e w4 ⟨v4, rfl, ⟨B2, m2, d2, rfl, hs4, hn4⟩, hb4⟩
      have hD4 : Below w3.heap.size w3 w4 := hD.trans hb4
      have hS4 := K63.out.below hD4 hl6
      obtain ⟨l2, hl2⟩ : ∃ y, (LP.canon (LP.term (-3 * ex) 1)).1 = y := ⟨_, rfl⟩
      have hm4 := HM.out _ hD4 B2 m2 d2 hs4
      rw [hl2] at hm4 ⊢
      refine ⟨_, rfl, hS4, ?_⟩
      go_frame
      refine wpAnyH_1 5 rfl (by kernel_rfl) ?_
      refine wp_call (l := [.tmp 30, .tmp 34]) [PV l1 A1 n1 c1, PV l2 B2 m2 d2] rfl rfl eLMul rfl ?_
      refine hm4.mono ?_
      rintro e w5 ⟨B3', m3, d3, rfl, hs5, hn5, hb5⟩
      obtain ⟨l3, hl3⟩ : ∃ y, (LP.canon (jon N xs)).1 = y := ⟨_, rfl⟩
      simp only [hl3]
      have hD5 : Below w3.heap.size w3 w5 := hD4.trans (hb5.mono hD4.size)
      have hS5 := K63.out.below hD5 hl6
      refine ⟨_, rfl, hS5, ?_⟩
      go_frame
      refine wpAnyH_tk 6 (v := PV l3 B3' m3 d3) rfl (by kernel_rfl) (by kernel_rfl) (by kernel_rfl) (yi rfl fun w' hw' => gives_extract rfl rfl rfl) hS5 ?_
      go_frame
      refine wpAnyH_tk 7 (v := .int .i64 0) rfl (by kernel_rfl) (by kernel_rfl) (by kernel_rfl) (yi rfl fun w' hw' => gives_extract rfl rfl rfl) hS5 ?_
      go_frame
      refine wpAnyH_1 8 rfl (by kernel_rfl) ?_
      have z3 := Z3.out
      have hk0 := K13.out.below hD5 (by omega)
      refine wp_storeRow rfl rfl rfl hk0 (by kernel_rfl) rfl (by simp [Value.oneCell']) ?_
      have hS6 : Blk (w5.setRow w.heap.size #[.int .i64 l3, .slice B3' m3 d3]) b6 36 #[.int .i64 l1, .slice A1 n1 c1] := (setRow_other _ _ _ _ (by omega)).trans hS5
      refine ⟨hS6, ?_⟩
      go_frame
      refine wpAnyH_tk 9 (v := .int .i64 0) rfl (by kernel_rfl) (by kernel_rfl) (by kernel_rfl) (yi rfl fun w' hw' => gives_move (.inr rfl) rfl) hS6 ?_
      go_frame
      refine wpAnyH_done (by kernel_rfl) (noPanic_mk ?_) _
      have s4 := hD4.size
      have KF := hide (show Blk (w5.setRow w.heap.size #[.int .i64 l3, .slice B3' m3 d3]) w.heap.size 36 #[.int .i64 l3, .slice B3' m3 d3] from setRow_heap _ _ _ _ _ _ hk0)
      have hfar : 0 < m3 → ∀ ad, B3' = some ad → w.heap.size + 1 ≤ ad.block := fun hn ad e => by have := hn5 hn ad e; omega
      have SF := hide (SL.setRow_ hs5 (fun hn ad e => by have := hfar hn ad e; omega) #[.int .i64 l3, .slice B3' m3 d3] (b := w.heap.size))
      have NF := hide hfar
      have BF := hide (Below.setRow_ (B3.out.trans (hD5.mono (by omega))) (Nat.le_refl w.heap.size) #[.int .i64 l3, .slice B3' m3 d3])
      have HL3 := hide hl3
      clear hS hS4 hS5 hS6 hD hD4 hD5 hs4 hn4 hb4 hs5 hn5 hb5 hk0 hfar hm4 HM HT hrt hl2 hl3 hl6 s4
      go_wp2_with fail
      refine bodyPost_ret (results_pe rfl _ rfl rfl KF.out) rfl ?_
      exact ⟨B3', m3, d3, by rw [HL3.out]; rfl, SF.out, fun hn ad e => by have := NF.out hn ad e; omega, BF.out⟩
    · have f2 : (ex.tmod 2 != 0) = true := by
        have : ex.tmod 2 ≠ 0 := by
          generalize ex.tmod 2 = t at hnm ⊢
          omega
        simpa using this
      have hjd := HJD.out
      rw [if_neg hpar] at hjd
      have HJD2 := hide hjd
      clear hjd hpar
      go_upto_region 8 with fail
      clear f2 fm hnm
      have hl6 := K63.out.lt
      have HT := hide (fun (w' : World) => jterm_any (-1) (-3 * ex) w' (.inr rfl))
      have hrt : LP.Rt (LP.term (-3 * ex) (-1)) := term_rt (by omega) (by decide)
      have HM := hide (fun (w' : World) (hb : Below w3.heap.size w3 w') (B2 : Option Addr) (m2 d2 : Nat) (hs : SL w' B2 m2 d2 (LP.canon (LP.term (-3 * ex) (-1))).2) => by
        have h := F.mul (LP.canon (brk N xs)).1 A1 n1 c1 (LP.canon (brk N xs)).2 (LP.canon (LP.term (-3 * ex) (-1))).1 B2 m2 d2 (LP.canon (LP.term (-3 * ex) (-1))).2 w' (S3.out.below hb) hs HRB.out.wf hrt.wf
        rw [LP.mulR_canon HRB.out hrt (by rw [← HJD2.out]; exact HRJ.out), ← HJD2.out, HL1.out] at h
        exact h)
      refine wp_region_noPanic ?_
      refine wp_region_held_drew (S := fun z => Blk z b6 36 #[.int .i64 l1, .slice A1 n1 c1]) (by kernel_rfl) (K63.out.below (Below.refl _ _).drew hl6) (fun hS => ?_)
      have hD : Below w3.heap.size w3 w3.drew := (Below.refl _ _).drew
      refine wpAnyH_tk 0 (v := PV l1 A1 n1 c1) rfl (by kernel_rfl) (by kernel_rfl) (by kernel_rfl) (yi rfl fun w' hw' => gives_loadRow rfl rfl hw' Try.underlying36 (by kernel_rfl) (by kernel_rfl)) hS ?_
      go_frame
      refine wpAnyH_tk 1 (v := .int .i64 (-1)) rfl (by kernel_rfl) (by kernel_rfl) (by kernel_rfl) (yi rfl fun w' hw' => gives_move (.inl rfl) rfl) hS ?_
      go_frame
      refine wpAnyH_tk 2 (v := .int .i64 ex) rfl (by kernel_rfl) (by kernel_rfl) (by kernel_rfl) (yi rfl fun w' hw' => gives_move (.inl rfl) rfl) hS ?_
      go_frame
      refine wpAnyH_tk 3 (v := .int .i64 (-3 * ex)) rfl (by kernel_rfl) (by kernel_rfl) (by kernel_rfl) (yi rfl fun w' hw' => gives_mul rfl rfl rfl hmul) hS ?_
      go_frame
      refine wpAnyH_1 4 rfl (by kernel_rfl) ?_
      refine wp_call (l := [.tmp 31, .tmp 33]) [.int .i64 (-1), .int .i64 (-3 * ex)] rfl rfl eJterm rfl ?_
      refine (HT.out _).mono ?_
      rintro e w4 ⟨v4, rfl, ⟨B2, m2, d2, rfl, hs4, hn4⟩, hb4⟩
      have hD4 : Below w3.heap.size w3 w4 := hD.trans hb4
      have hS4 := K63.out.below hD4 hl6
      obtain ⟨l2, hl2⟩ : ∃ y, (LP.canon (LP.term (-3 * ex) (-1))).1 = y := ⟨_, rfl⟩
      have hm4 := HM.out _ hD4 B2 m2 d2 hs4
      rw [hl2] at hm4 ⊢
      refine ⟨_, rfl, hS4, ?_⟩
      go_frame
      refine wpAnyH_1 5 rfl (by kernel_rfl) ?_
      refine wp_call (l := [.tmp 30, .tmp 34]) [PV l1 A1 n1 c1, PV l2 B2 m2 d2] rfl rfl eLMul rfl ?_
      refine hm4.mono ?_
      rintro e w5 ⟨B3', m3, d3, rfl, hs5, hn5, hb5⟩
      obtain ⟨l3, hl3⟩ : ∃ y, (LP.canon (jon N xs)).1 = y := ⟨_, rfl⟩
      simp only [hl3]
      have hD5 : Below w3.heap.size w3 w5 := hD4.trans (hb5.mono hD4.size)
      have hS5 := K63.out.below hD5 hl6
      refine ⟨_, rfl, hS5, ?_⟩
      go_frame
      refine wpAnyH_tk 6 (v := PV l3 B3' m3 d3) rfl (by kernel_rfl) (by kernel_rfl) (by kernel_rfl) (yi rfl fun w' hw' => gives_extract rfl rfl rfl) hS5 ?_
      go_frame
      refine wpAnyH_tk 7 (v := .int .i64 0) rfl (by kernel_rfl) (by kernel_rfl) (by kernel_rfl) (yi rfl fun w' hw' => gives_extract rfl rfl rfl) hS5 ?_
      go_frame
      refine wpAnyH_1 8 rfl (by kernel_rfl) ?_
      have z3 := Z3.out
      have hk0 := K13.out.below hD5 (by omega)
      refine wp_storeRow rfl rfl rfl hk0 (by kernel_rfl) rfl (by simp [Value.oneCell']) ?_
      have hS6 : Blk (w5.setRow w.heap.size #[.int .i64 l3, .slice B3' m3 d3]) b6 36 #[.int .i64 l1, .slice A1 n1 c1] := (setRow_other _ _ _ _ (by omega)).trans hS5
      refine ⟨hS6, ?_⟩
      go_frame
      refine wpAnyH_tk 9 (v := .int .i64 0) rfl (by kernel_rfl) (by kernel_rfl) (by kernel_rfl) (yi rfl fun w' hw' => gives_move (.inr rfl) rfl) hS6 ?_
      go_frame
      refine wpAnyH_done (by kernel_rfl) (noPanic_mk ?_) _
      have s4 := hD4.size
      have KF := hide (show Blk (w5.setRow w.heap.size #[.int .i64 l3, .slice B3' m3 d3]) w.heap.size 36 #[.int .i64 l3, .slice B3' m3 d3] from setRow_heap _ _ _ _ _ _ hk0)
      have hfar : 0 < m3 → ∀ ad, B3' = some ad → w.heap.size + 1 ≤ ad.block := fun hn ad e => by have := hn5 hn ad e; omega
      have SF := hide (SL.setRow_ hs5 (fun hn ad e => by have := hfar hn ad e; omega) #[.int .i64 l3, .slice B3' m3 d3] (b := w.heap.size))
      have NF := hide hfar
      have BF := hide (Below.setRow_ (B3.out.trans (hD5.mono (by omega))) (Nat.le_refl w.heap.size) #[.int .i64 l3, .slice B3' m3 d3])
      have HL3 := hide hl3
      clear hS hS4 hS5 hS6 hD hD4 hD5 hs4 hn4 hb4 hs5 hn5 hb5 hk0 hfar hm4 HM HT hrt hl2 hl3 hl6 s4
      go_wp2_with fail
      refine bodyPost_ret (results_pe rfl _ rfl rfl KF.out) rfl ?_
      exact ⟨B3', m3, d3, by rw [HL3.out]; rfl, SF.out, fun hn ad e => by have := NF.out hn ad e; omega, BF.out⟩
  · have hj := HJE.out
    obtain rfl : (0 : LP) = q := by rw [← HJP.out]; unfold joP; rw [if_neg (by rw [hj]; exact hf)]
    have f : (z != 0) = true := by simpa using hf
    clear HJE HJP HJB hj B
    go_wp2_with fail
    refine bodyPost_ret (results_pe rfl _ rfl rfl ((K1.out.set_ 0 (.int .i64 0)).set_ 1 (.slice none 0 0))) rfl ?_
    exact ⟨none, 0, 0, by rw [LP.canon_zero]; rfl, by rw [LP.canon_zero]; exact SL.nil_ _, fun h => absurd h (by omega), (B1.out.setCell (p := ⟨w.heap.size, 0, none⟩) (Nat.le_refl _) _).setCell (p := ⟨w.heap.size, 1, none⟩) (Nat.le_refl _) _⟩
/-- Package jones answers as the document says. -/
theorem jonesC_of (F : PolyC) (G : TlC) (B : BraidC) : JonesC where
  bracket := fun m A n c xs w ha hm => jbracket_any F G B m A n c xs w ha hm -- 50
  poly := fun m A n c xs w ha hm => jpoly_any F G B m A n c xs w ha hm -- 17
end Go.Proofs.Ytndgffiihbdppaa
/- slices.IndexFunc and slices.DeleteFunc of integers, with a function that only answers. -/
namespace Go.Proofs.Ytndgffiihbdppaa
set_option linter.unusedVariables false
set_option linter.unusedSimpArgs false
open Go.RowKit

set_option maxRecDepth 100000 in
set_option maxHeartbeats 2000000 in
theorem intIndex_any {fid : FuncId} {caps : List Value} (f : Int → Bool) (hfid : ∀ args w, (callFunc fid args).run Try.prog w = .ok (.enter fid args) w) (A : Option Addr) (n c : Nat) (xs : List Int) (w : World) (ha : IL w A n xs)
    (hf : ∀ x w, Calls Try.prog fid (.int .i64 x :: caps).toArray w fun e w' => e = .returned (.bool (f x)) ∧ w = w') :
    Calls Try.prog 96 #[.slice A n c, .func (.func fid) #[] caps.toArray] w fun e w' => ((e = .returned (.int .i64 (-1)) ∧ ∀ j, j < n → f (xs.getD j 0) = false) ∨ ∃ k : Nat, e = .returned (.int .i64 k) ∧ k < n ∧ f (xs.getD k 0) = true ∧ ∀ j, j < k → f (xs.getD j 0) = false) ∧ w = w' := by
  have hs := ha.small
  have HA := hide ha
  have HF := hide hf
  clear ha hf
  go_enter Try.func96, Try.ntmps96
  go_wp2
  go_loop [8] (fun i => ∃ k : Nat, k ≤ n ∧ i = .int .i64 k ∧ Hid (∀ j, j < k → f (xs.getD j 0) = false)) (fun i => n - (intOf i).toNat)
  case atStart => exact ⟨0, Nat.zero_le _, rfl, hide (fun j hj => absurd hj (by omega))⟩
  case round =>
    obtain ⟨k, hk, rfl, HN⟩ := hrel
    by_cases hlt : k < n
    · obtain ⟨ad, rfl, hc⟩ := HA.out.at_ hlt
      have HC := hide (HF.out (xs.getD k 0) w)
      by_cases hfk : f (xs.getD k 0) = true
      · have HY := hide hfk
        rw [hfk] at HC
        clear hfk
        go_wp2_with fail
        refine HC.out.mono ?_
        rintro e w1 ⟨rfl, rfl⟩
        go_wp2_with fail
        go_ret
        exact ⟨.inr ⟨k, rfl, hlt, HY.out, HN.out⟩, rfl⟩
      · have hfk' : f (xs.getD k 0) = false := by simpa using hfk
        have HN2 : Hid (∀ j, j < k + 1 → f (xs.getD j 0) = false) := hide (fun j hj => by
          by_cases e : j = k
          · rw [e]; exact hfk'
          · exact HN.out j (by omega))
        rw [hfk'] at HC
        clear hfk hfk'
        go_wp2_with fail
        refine HC.out.mono ?_
        rintro e w1 ⟨rfl, rfl⟩
        go_wp2_with fail
        go_round
        case rel => exact ⟨k + 1, by omega, by go_num, HN2⟩
        case measure => simp [intOf]; omega
    · go_wp2_with fail
      go_ret
      exact ⟨.inl ⟨rfl, fun j hj => HN.out j (by omega)⟩, rfl⟩
theorem eIntIx : ∀ args w, (callFunc 96 args).run Try.prog w = .ok (.enter 96 args) w := enters (fn := Try.f96) (by kernel_rfl) (by kernel_rfl) (by kernel_rfl)
end Go.Proofs.Ytndgffiihbdppaa
/- Package laurent: Check and small functions. -/
namespace Go.Proofs.Ytndgffiihbdppaa
set_option linter.unusedVariables false
set_option linter.unusedSimpArgs false
open Go.RowKit

theorem eLarge : ∀ args w, (callFunc 77 args).run Try.prog w = .ok (.enter 77 args) w := enters (fn := Try.f77) (by kernel_rfl) (by kernel_rfl) (by kernel_rfl)
set_option maxRecDepth 100000 in
set_option maxHeartbeats 2000000 in
theorem large_any (x : Int) (w : World) :
    Calls Try.prog 77 #[.int .i64 x] w fun e w' => e = .returned (.bool (!LP.okC x)) ∧ w = w' := by
  by_cases h1 : x < -100000000
  · have HR : Hid ((!LP.okC x) = true) := hide (by unfold LP.okC; simp; omega)
    go_enter Try.func77, Try.ntmps77
    go_wp2_with fail
    go_ret
    rw [HR.out]
    exact ⟨rfl, rfl⟩
  by_cases h2 : 100000000 < x
  · have HR : Hid ((!LP.okC x) = true) := hide (by unfold LP.okC; simp; omega)
    go_enter Try.func77, Try.ntmps77
    go_wp2_with fail
    go_ret
    rw [HR.out]
    exact ⟨rfl, rfl⟩
  · have HR : Hid ((!LP.okC x) = false) := hide (by unfold LP.okC; simp; omega)
    go_enter Try.func77, Try.ntmps77
    go_wp2_with fail
    go_ret
    rw [HR.out]
    exact ⟨rfl, rfl⟩

set_option maxRecDepth 100000 in
set_option maxHeartbeats 2000000 in
/-- slices.ContainsFunc of integers, with a function that only answers. -/
theorem containsI_any {fid : FuncId} {caps : List Value} (f : Int → Bool) (hfid : ∀ args w, (callFunc fid args).run Try.prog w = .ok (.enter fid args) w) (A : Option Addr) (n c : Nat) (xs : List Int) (w : World) (ha : IL w A n xs)
    (hf : ∀ x w, Calls Try.prog fid (.int .i64 x :: caps).toArray w fun e w' => e = .returned (.bool (f x)) ∧ w = w') :
    Calls Try.prog 76 #[.slice A n c, .func (.func fid) #[] caps.toArray] w fun e w' => e = .returned (.bool (xs.any f)) ∧ w = w' := by
  have HL := hide ha.len
  have HI := hide (intIndex_any (caps := caps) f hfid A n c xs w ha hf)
  have e1 := eIntIx
  clear ha hf
  go_enter Try.func76, Try.ntmps76
  go_wp2_with fail
  refine HI.out.mono ?_
  rintro e w1 ⟨h | h, rfl⟩
  · obtain ⟨rfl, h⟩ := h
    have HB : Hid (xs.any f = false) := hide (by
      rw [List.any_eq_false]
      intro x hx
      obtain ⟨j, hj, rfl⟩ := List.mem_iff_getElem.1 hx
      have := h j (by rw [← HL.out]; exact hj)
      rw [show xs.getD j 0 = xs[j] by simp [List.getD, List.getElem?_eq_getElem hj]] at this
      simp [this])
    clear HI h
    go_wp2_with fail
    go_ret
    rw [HB.out]
    exact ⟨rfl, rfl⟩
  · obtain ⟨k, rfl, hk, hfk, _⟩ := h
    have HB : Hid (xs.any f = true) := hide (by
      rw [List.any_eq_true]
      have hj : k < xs.length := by rw [HL.out]; exact hk
      rw [show xs.getD k 0 = xs[k] by simp [List.getD, List.getElem?_eq_getElem hj]] at hfk
      exact ⟨xs[k], List.getElem_mem _, hfk⟩)
    clear HI hfk
    go_wp2_with fail
    go_ret
    rw [HB.out]
    exact ⟨rfl, rfl⟩
theorem eContI : ∀ args w, (callFunc 76 args).run Try.prog w = .ok (.enter 76 args) w := enters (fn := Try.f76) (by kernel_rfl) (by kernel_rfl) (by kernel_rfl)
theorem LP.any_large (xs : List Int) : (xs.any fun x => !okC x) = !xs.all okC := by rw [List.not_all_eq_any_not]

set_option maxRecDepth 100000 in
set_option maxHeartbeats 4000000 in
theorem lcheck_any (la : Int) (A : Option Addr) (n c : Nat) (xs : List Int) (w : World) (ha : SL w A n c xs) :
    Calls Try.prog 53 #[PV la A n c] w fun e w' => e = .returned (.int .i64 (LP.pfl la xs)) ∧ Below w.heap.size w w' := by
  have hl := ha.il.len
  have hns := ha.il.small
  have hb0 : Below w.heap.size w (w.alloc (.cells #[.int .i64 la, .slice A n c] 36)) := (Below.refl _ _).alloc (Nat.le_refl _) _
  have HW := hide hb0
  have HA := hide (ha.below hb0)
  have hb1 := Blk.new w 36 #[.int .i64 la, .slice A n c]
  obtain ⟨w0, hw0⟩ : ∃ x, w.alloc (.cells #[.int .i64 la, .slice A n c] 36) = x := ⟨_, rfl⟩
  have HW0 := hide hw0
  rw [hw0] at HW HA hb1
  have B0 := hide hb1
  have hq0 := hb1.cell 0
  have hq1 := hb1.cell 1
  simp at hq0 hq1
  by_cases hbig : 200 < n ∨ 1000 < la ∨ la < -1000
  · have HP := hide (LP.pfl_big (lo := la) (xs := xs) (by omega))
    clear ha hl hb0 hb1
    by_cases h1 : 200 < n
    · go_enter Try.func53, Try.ntmps53
      go_upto_region 2 with fail
      clear hw0
      go_wp2_with fail
      go_ret
      rw [HP.out]
      exact ⟨rfl, HW.out⟩
    by_cases h2 : la < -1000
    · go_enter Try.func53, Try.ntmps53
      go_upto_region 2 with fail
      clear hw0
      go_wp2_with fail
      go_ret
      rw [HP.out]
      exact ⟨rfl, HW.out⟩
    · have h3 : 1000 < la := by omega
      go_enter Try.func53, Try.ntmps53
      go_upto_region 2 with fail
      clear hw0
      go_wp2_with fail
      go_ret
      rw [HP.out]
      exact ⟨rfl, HW.out⟩
  have hN : ¬ (200 < xs.length ∨ 1000 < la ∨ la < -1000) := by omega
  have h1 : n ≤ 200 := by omega
  have h2 : la ≤ 1000 := by omega
  have h3 : -1000 ≤ la := by omega
  have HCN := hide (containsI_any (fid := 77) (caps := []) (fun x => !LP.okC x) eLarge A n c xs w0 HA.out.il (fun x w => large_any x w))
  rw [LP.any_large] at HCN
  have ec := eContI
  by_cases h4 : n = 0
  · by_cases h5 : la = 0
    · have HP := hide (LP.pfl_loop hN (by omega))
      have hx : xs = [] := List.eq_nil_of_length_eq_zero (by omega)
      have HP2 : Hid (LP.pfl la xs = 0) := hide (by rw [HP.out, hx]; rfl)
      have HAL : Hid ((!xs.all LP.okC) = false) := hide (by rw [hx]; rfl)
      rw [HAL.out] at HCN
      clear ha hl hb0 hb1 HP hx HA hN HAL
      subst h4 h5
      go_enter Try.func53, Try.ntmps53
      go_upto_region 2 with fail
      clear hw0
      go_wp2_with fail
      refine HCN.out.mono ?_
      rintro e w1 ⟨rfl, rfl⟩
      go_wp2_with fail
      go_ret
      rw [HP2.out]
      exact ⟨rfl, HW.out⟩
    · have HP := hide (LP.pfl_bad hN (by omega))
      have hb : (la != 0) = true := by simpa using h5
      clear ha hl hb0 hb1 HA hN h5
      subst h4
      go_enter Try.func53, Try.ntmps53
      go_upto_region 2 with fail
      clear hw0
      go_wp2_with fail
      go_ret
      rw [HP.out]
      exact ⟨rfl, HW.out⟩
  · have b4 : ((n : Int) == 0) = false := by simp; omega
    have b5 : decide ((0 : Int) < n) = true := by simp; omega
    have hpos : 0 < n := by omega
    obtain ⟨ad, hA, hal, hac⟩ := HA.out.il.mem hpos
    subst hA
    have c0 := hac 0 hpos
    have cl := hac (n - 1) (by omega)
    obtain ⟨x0, hx0⟩ : ∃ x, xs.getD 0 0 = x := ⟨_, rfl⟩
    obtain ⟨xl, hxl⟩ : ∃ x, xs.getD (n - 1) 0 = x := ⟨_, rfl⟩
    rw [hx0] at c0
    have c0 : w0.cell? ad = some (.int .i64 x0) := by
      have e : ad.add 0 = ad := by cases ad; simp [Addr.add]
      rw [e] at c0; exact c0
    rw [hxl] at cl
    have hw1 : IntKind.i64.wrap ((n : Int) - 1) = ((n - 1 : Nat) : Int) := by rw [IntKind.wrap_i64]; omega
    obtain ⟨k1, hk1⟩ : ∃ k, n - 1 = k := ⟨_, rfl⟩
    rw [hk1] at cl hw1 hxl
    have hkn : k1 < n := by omega
    clear hb0 hb1 hac
    by_cases h6 : x0 = 0
    · have HP := hide (LP.pfl_bad hN (.inr ⟨by omega, .inl (by rw [hx0]; exact h6)⟩))
      subst h6
      clear ha hl hN hk1 cl hw1 hxl hkn hx0 HCN
      go_enter Try.func53, Try.ntmps53
      go_upto_region 2 with fail
      clear hw0
      go_wp2_with fail
      go_ret
      rw [HP.out]
      exact ⟨rfl, HW.out⟩
    have b6 : (x0 == 0) = false := by simpa using h6
    by_cases h7 : xl = 0
    · have HP := hide (LP.pfl_bad hN (.inr ⟨by omega, .inr (by rw [hl, hk1, hxl]; exact h7)⟩))
      subst h7
      clear ha hl hN hk1 hxl hx0 h6 HCN
      go_enter Try.func53, Try.ntmps53
      go_upto_region 2 with fail
      clear hw0
      go_wp2_with fail
      go_ret
      rw [HP.out]
      exact ⟨rfl, HW.out⟩
    have b7 : (xl == 0) = false := by simpa using h7
    have HP := hide (LP.pfl_loop hN (by rw [hx0, hl, hk1, hxl]; omega))
    clear ha hl hN hk1 hxl hx0 h6 h7
    obtain ⟨q, hq⟩ : ∃ q, xs.all LP.okC = q := ⟨_, rfl⟩
    rw [hq] at HP HCN
    clear hq
    go_enter Try.func53, Try.ntmps53
    go_upto_region 2 with fail
    clear hw0
    go_upto_region 6 with fail
    go_wp2_with fail
    refine HCN.out.mono ?_
    rintro e w1 ⟨rfl, rfl⟩
    cases q
    · go_wp2_with fail
      go_ret
      rw [HP.out]
      exact ⟨rfl, HW.out⟩
    · go_wp2_with fail
      go_ret
      rw [HP.out]
      exact ⟨rfl, HW.out⟩
end Go.Proofs.Ytndgffiihbdppaa
/- Package laurent: the end of a polynomial, its coefficients as a function, both checks, what is accepted. -/
namespace Go.Proofs.Ytndgffiihbdppaa
set_option linter.unusedVariables false
set_option linter.unusedSimpArgs false
open Go.RowKit

set_option maxRecDepth 100000 in
set_option maxHeartbeats 2000000 in
theorem endOf_any (la : Int) (A : Option Addr) (n c : Nat) (w : World) (h1 : la.natAbs ≤ 1000000) (h2 : n ≤ 1000000) :
    Calls Try.prog 61 #[PV la A n c] w fun e w' => e = .returned (.int .i64 (la + n)) ∧ w' = w.alloc (.cells #[.int .i64 la, .slice A n c] 36) := by
  have hw : IntKind.i64.wrap (la + (n : Int)) = la + n := by rw [IntKind.wrap_i64]; omega
  have hb1 := Blk.new w 36 #[.int .i64 la, .slice A n c]
  obtain ⟨w0, hw0⟩ : ∃ x, w.alloc (.cells #[.int .i64 la, .slice A n c] 36) = x := ⟨_, rfl⟩
  rw [hw0] at hb1
  have hq0 := hb1.cell 0
  have hq1 := hb1.cell 1
  simp at hq0 hq1
  clear hb1
  have HW0 := hide hw0
  go_enter Try.func61, Try.ntmps61
  go_upto_region 1 with fail
  clear hw0
  go_wp2_with fail
  go_ret
  exact ⟨rfl, HW0.out.symm⟩
theorem eEndOf : ∀ args w, (callFunc 61 args).run Try.prog w = .ok (.enter 61 args) w := enters (fn := Try.f61) (by kernel_rfl) (by kernel_rfl) (by kernel_rfl)

set_option maxRecDepth 100000 in
set_option maxHeartbeats 2000000 in
theorem coefficients_any (la : Int) (A : Option Addr) (n c : Nat) (w : World) :
    Calls Try.prog 59 #[PV la A n c] w fun e w' => e = .returned (.func (.func 84) #[] #[.pointer (some ⟨w.heap.size, 0, none⟩)]) ∧ w' = w.alloc (.cells #[.int .i64 la, .slice A n c] 36) := by
  have hmf : ∀ (fn : Fn) (first cap : Array Value) (w : World), (Instr.makeFunc fn first cap).run Try.prog w = .ok (.func fn first cap) w := fun _ _ _ _ => rfl
  go_enter Try.func59, Try.ntmps59
  go_wp2_with fail
  go_ret
  exact ⟨rfl, rfl⟩
theorem eCoeffs : ∀ args w, (callFunc 59 args).run Try.prog w = .ok (.enter 59 args) w := enters (fn := Try.f59) (by kernel_rfl) (by kernel_rfl) (by kernel_rfl)
theorem eCoeff : ∀ args w, (callFunc 84 args).run Try.prog w = .ok (.enter 84 args) w := enters (fn := Try.f84) (by kernel_rfl) (by kernel_rfl) (by kernel_rfl)

set_option maxRecDepth 100000 in
set_option maxHeartbeats 2000000 in
theorem coeff_any (la : Int) (A : Option Addr) (n c : Nat) (xs : List Int) (b : Nat) (x : Int) (w : World) (ha : SL w A n c xs) (hb : Blk w b 36 #[.int .i64 la, .slice A n c]) (h1 : la.natAbs ≤ 1000000) (h2 : n ≤ 1000000) (h3 : x.natAbs ≤ 100000000) :
    Calls Try.prog 84 #[.int .i64 x, .pointer (some ⟨b, 0, none⟩)] w fun e w' => e = .returned (.int .i64 (LP.co (LP.of la xs) x)) ∧ Below w.heap.size w w' := by
  have hl := ha.il.len
  have HC : Hid (LP.co (LP.of la xs) x = if la ≤ x ∧ x < la + n then xs.getD (x - la).toNat 0 else 0) := hide (by rw [LP.co_of, hl])
  have hq0 := hb.cell 0
  have hq1 := hb.cell 1
  simp at hq0 hq1
  have HE := hide (endOf_any la A n c w h1 h2)
  have hbb : Below w.heap.size w (w.alloc (.cells #[.int .i64 la, .slice A n c] 36)) := (Below.refl _ _).alloc (Nat.le_refl _) _
  have HBB := hide hbb
  by_cases hlo : x < la
  · have HR : Hid (LP.co (LP.of la xs) x = 0) := hide (by rw [HC.out, if_neg (by omega)])
    have HB0 := hide (Below.refl w.heap.size w)
    clear ha hb HE hbb HBB HC
    go_enter Try.func84, Try.ntmps84
    go_wp2_with fail
    go_ret
    rw [HR.out]
    exact ⟨rfl, HB0.out⟩
  by_cases hhi : la + n ≤ x
  · have HR : Hid (LP.co (LP.of la xs) x = 0) := hide (by rw [HC.out, if_neg (by omega)])
    clear ha hb hbb HC
    go_enter Try.func84, Try.ntmps84
    go_wp2_with fail
    refine HE.out.mono ?_
    rintro e w1 ⟨rfl, rfl⟩
    have HBB1 := hide HBB.out
    clear HBB hq0 hq1
    generalize w.alloc (.cells #[.int .i64 la, .slice A n c] 36) = w1 at *
    go_wp2_with fail
    go_ret
    rw [HR.out]
    exact ⟨rfl, HBB1.out⟩
  · obtain ⟨k, hk⟩ : ∃ k : Nat, x = la + k := ⟨(x - la).toNat, by omega⟩
    have hkn : k < n := by omega
    have HR : Hid (LP.co (LP.of la xs) x = xs.getD k 0) := hide (by rw [HC.out, if_pos (by omega), show (x - la).toNat = k by omega])
    obtain ⟨ad, hA, hc⟩ := (ha.below hbb).il.at_ hkn
    have hq2 := (hb.below hbb hb.lt).cell 0
    have hq3 := (hb.below hbb hb.lt).cell 1
    simp at hq2 hq3
    have hw : IntKind.i64.wrap (la + (k : Int) - la) = k := by rw [IntKind.wrap_i64]; omega
    subst hA hk
    obtain ⟨y, hy⟩ : ∃ y, xs.getD k 0 = y := ⟨_, rfl⟩
    rw [hy] at hc HR
    clear hy
    have HC2 := hide hc
    have HQ2 := hide hq2
    have HQ3 := hide hq3
    clear ha hb hbb HC hc hq2 hq3
    go_enter Try.func84, Try.ntmps84
    go_wp2_with fail
    refine HE.out.mono ?_
    rintro e w1 ⟨rfl, rfl⟩
    have HBB1 := hide HBB.out
    clear HBB hq0 hq1
    have hc := HC2.out
    have hq2 := HQ2.out
    have hq3 := HQ3.out
    clear HC2 HQ2 HQ3
    generalize w.alloc (.cells #[.int .i64 la, .slice (some ad) n c] 36) = w1 at *
    go_wp2_with fail
    go_ret
    rw [HR.out]
    exact ⟨rfl, HBB1.out⟩

/-- The error of two polynomials. -/
def LP.pfl2 (la : Int) (xs : List Int) (lb : Int) (ys : List Int) : Int := if pfl la xs = 0 then pfl lb ys else pfl la xs
set_option maxRecDepth 100000 in
set_option maxHeartbeats 2000000 in
theorem checkBoth_any (la : Int) (A : Option Addr) (n c : Nat) (xs : List Int) (lb : Int) (B : Option Addr) (m d : Nat) (ys : List Int) (w : World) (ha : SL w A n c xs) (hb : SL w B m d ys) :
    Calls Try.prog 74 #[PV la A n c, PV lb B m d] w fun e w' => e = .returned (.int .i64 (LP.pfl2 la xs lb ys)) ∧ Below w.heap.size w w' := by
  have h1 : Below w.heap.size w ((w.alloc (.cells #[.int .i64 la, .slice A n c] 36)).alloc (.cells #[.int .i64 lb, .slice B m d] 36)) := ((Below.refl _ _).alloc (Nat.le_refl _) _).alloc (by simp) _
  have hB2 := Blk.new (w.alloc (.cells #[.int .i64 la, .slice A n c] 36)) 36 #[.int .i64 lb, .slice B m d]
  have HW := hide h1
  have HA := hide (lcheck_any la A n c xs _ (ha.below h1))
  have HBS := hide (hb.below h1)
  simp only [World.size_alloc] at hB2
  have HB2 := hide hB2
  clear ha hb hB2 h1
  go_enter Try.func74, Try.ntmps74
  go_upto_region 1 with fail
  obtain ⟨w0, hw0⟩ : ∃ x, ((w.alloc (.cells #[.int .i64 la, .slice A n c] 36)).alloc (.cells #[.int .i64 lb, .slice B m d] 36)) = x := ⟨_, rfl⟩
  have hB1 := (Blk.new w 36 #[.int .i64 la, .slice A n c]).alloc (.cells #[.int .i64 lb, .slice B m d] 36)
  rw [hw0] at HW HA HBS HB2 hB1 ⊢
  have hq0 := hB1.cell 0
  have hq1 := hB1.cell 1
  simp at hq0 hq1
  clear hw0 hB1
  go_wp2_with fail
  refine HA.out.mono ?_
  rintro e w1 ⟨rfl, hb⟩
  have HW1 := hide (HW.out.trans (hb.mono HW.out.size))
  have HB1 := hide (HBS.out.below hb)
  have hk := HB2.out.below hb HB2.out.lt
  have hr0 := hk.cell 0
  have hr1 := hk.cell 1
  simp at hr0 hr1
  obtain ⟨p, hp⟩ : ∃ p, LP.pfl la xs = p := ⟨_, rfl⟩
  have HP : Hid (LP.pfl2 la xs lb ys = if p = 0 then LP.pfl lb ys else p) := hide (by unfold LP.pfl2; rw [hp])
  rw [hp]
  clear hb HA HBS HB2 hq0 hq1 hk hp
  by_cases h0 : p = 0
  · subst h0
    go_wp2_with fail
    refine (lcheck_any lb B m d ys _ HB1.out).mono ?_
    rintro e w2 ⟨rfl, hb⟩
    have HW2 := hide (HW1.out.trans (hb.mono HW1.out.size))
    clear hb hr0 hr1
    go_wp2_with fail
    go_ret
    rw [HP.out, if_pos trivial]
    exact ⟨rfl, HW2.out⟩
  · have hne : (p != 0) = true := by simpa using h0
    go_wp2_with fail
    go_ret
    rw [HP.out, if_neg h0]
    exact ⟨rfl, HW1.out⟩

set_option maxRecDepth 100000 in
set_option maxHeartbeats 2000000 in
theorem accepted_any (la : Int) (A : Option Addr) (n c : Nat) (xs : List Int) (w : World) (ha : SL w A n c xs) :
    Calls Try.prog 85 #[PV la A n c] w fun e w' => ∃ B m d, e = .returned (.tuple #[PV (LP.fitL la xs).2.1 B m d, .int .i64 (LP.fitL la xs).1]) ∧ SL w' B m d (LP.fitL la xs).2.2 ∧ (0 < m → B = A ∧ m = n) ∧ Below w.heap.size w w' := by
  have hb1 := (Blk.new w 36 #[.int .i64 la, .slice A n c]).alloc (.cells #[.int .i64 0, .slice none 0 0] 36)
  have hb2 := Blk.new (w.alloc (.cells #[.int .i64 la, .slice A n c] 36)) 36 #[.int .i64 0, .slice none 0 0]
  have hbw : Below w.heap.size w ((w.alloc (.cells #[.int .i64 la, .slice A n c] 36)).alloc (.cells #[.int .i64 0, .slice none 0 0] 36)) := ((Below.refl _ _).alloc (Nat.le_refl _) _).alloc (by simp) _
  have HA := hide (ha.below hbw)
  have HW := hide hbw
  simp only [World.size_alloc] at hb2
  have B1 := hide hb1
  have B2 := hide hb2
  have hin := ha.inside
  clear hb1 hb2 hbw ha
  have HI := hide hin
  clear hin
  go_enter Try.func85, Try.ntmps85
  go_upto_region 1 with fail
  obtain ⟨w0, hw0⟩ : ∃ x, ((w.alloc (.cells #[.int .i64 la, .slice A n c] 36)).alloc (.cells #[.int .i64 0, .slice none 0 0] 36)) = x := ⟨_, rfl⟩
  rw [hw0] at HA HW B1 B2 ⊢
  clear hw0
  have l1 := B1.out.lt
  have l2 := B2.out.lt
  have hq0 := B1.out.cell 0
  have hq1 := B1.out.cell 1
  simp at hq0 hq1
  go_wp2_with fail
  refine (lcheck_any la A n c xs _ HA.out).mono ?_
  rintro e w1 ⟨rfl, hb⟩
  replace HA := hide (HA.out.below hb)
  replace HW := hide (HW.out.trans (hb.mono HW.out.size))
  replace B1 := hide (B1.out.below hb l1)
  replace B2 := hide (B2.out.below hb l2)
  clear hb hq0 hq1 l1 l2
  have l1 := B1.out.lt
  have l2 := B2.out.lt
  have hq0 := B1.out.cell 0
  have hq1 := B1.out.cell 1
  simp at hq0 hq1
  have hr0 := B2.out.cell 0
  have hr1 := B2.out.cell 1
  simp at hr0 hr1
  have hf0 := B2.out.frozen 0
  have hf1 := B2.out.frozen 1
  have HB0 := hide (Below.refl w.heap.size w)
  by_cases hp : LP.pfl la xs = 0
  · have HR : Hid (LP.fitL la xs = (0, la, xs)) := hide (by unfold LP.fitL; rw [if_pos hp])
    rw [hp]
    go_wp2_with fail
    refine bodyPost_ret (results_pe rfl _ rfl rfl ((B2.out.set_ 0 (.int .i64 la)).set_ 1 (.slice A n c))) rfl ?_
    rw [HR.out]
    refine ⟨A, n, c, rfl, ?_, fun _ => ⟨rfl, rfl⟩, ?_⟩
    · exact (HA.out.setCell (fun h ad e => by have := HI.out h ad e; omega) 0 _).setCell (fun h ad e => by have := HI.out h ad e; omega) 1 _
    · exact (HW.out.setCell (p := ⟨w.heap.size + 1, 0, none⟩) (by show w.heap.size ≤ w.heap.size + 1; omega) _).setCell (p := ⟨w.heap.size + 1, 1, none⟩) (by show w.heap.size ≤ w.heap.size + 1; omega) _
  · have HR : Hid (LP.fitL la xs = (2, 0, [])) := hide (by unfold LP.fitL; rw [if_neg hp])
    have hne : (LP.pfl la xs != 0) = true := by simpa using hp
    clear hp
    go_wp2_with fail
    refine bodyPost_ret (results_pe rfl _ rfl rfl ((B2.out.set_ 0 (.int .i64 0)).set_ 1 (.slice none 0 0))) rfl ?_
    rw [HR.out]
    refine ⟨none, 0, 0, rfl, SL.nil_ _, fun h => absurd h (by omega), ?_⟩
    exact (HW.out.setCell (p := ⟨w.heap.size + 1, 0, none⟩) (by show w.heap.size ≤ w.heap.size + 1; omega) _).setCell (p := ⟨w.heap.size + 1, 1, none⟩) (by show w.heap.size ≤ w.heap.size + 1; omega) _
end Go.Proofs.Ytndgffiihbdppaa
