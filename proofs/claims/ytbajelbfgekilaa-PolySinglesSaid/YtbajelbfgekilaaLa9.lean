/- Package laurent: Conjugate. -/
import Derived.Test.YtbajelbfgekilaaLa8
namespace Go.Proofs.Ytbajelbfgekilaa
set_option linter.unusedVariables false
set_option linter.unusedSimpArgs false
open Go.RowKit

theorem eConjX : ∀ args w, (callFunc 40 args).run Try.prog w = .ok (.enter 40 args) w := enters (fn := Try.f40) (by kernel_rfl) (by kernel_rfl) (by kernel_rfl)
set_option maxRecDepth 100000 in
set_option maxHeartbeats 4000000 in
theorem conjX_any (la : Int) (A : Option Addr) (n c : Nat) (xs : List Int) (b5 ca : Nat) (w : World) (ha : SL w A n c xs) (h1 : la.natAbs ≤ 1000000) (h2 : n ≤ 1000000)
    (k5 : Blk w b5 54 #[.func (.func 54) #[] #[.pointer (some ⟨ca, 0, none⟩)]]) (ka : Blk w ca 24 #[.int .i64 la, .slice A n c]) (e : Int) (he : e.natAbs ≤ 10000000) :
    Calls Try.prog 40 #[.int .i64 e, .pointer (some ⟨b5, 0, none⟩)] w fun r w' => r = .returned (.int .i64 (LP.co (LP.conj (LP.of la xs)) e)) ∧ Below w.heap.size w w' := by
  have HC := hide (coeff_any la A n c xs ca (-e) w ha ka h1 h2 (by omega))
  have HV : Hid (LP.co (LP.conj (LP.of la xs)) e = LP.co (LP.of la xs) (-e)) := hide (LP.co_conj _ _)
  have hq := k5.cell 0
  simp at hq
  have ec := eCoeff
  have hw : IntKind.i64.wrap (-e) = -e := by rw [IntKind.wrap_i64]; omega
  generalize LP.co (LP.of la xs) (-e) = y at *
  clear ha k5 ka
  go_enter Try.func40, Try.ntmps40
  go_wp2_with fail
  refine HC.out.mono ?_
  rintro r w1 ⟨rfl, hb⟩
  have HB := hide hb
  clear hb hq HC
  go_wp2_with fail
  go_ret
  rw [HV.out]
  exact ⟨rfl, HB.out⟩

set_option maxRecDepth 100000 in
set_option maxHeartbeats 8000000 in
theorem lconj_any (la : Int) (A : Option Addr) (n c : Nat) (xs : List Int) (w : World) (ha : SL w A n c xs) :
    Calls Try.prog 10 #[PV la A n c] w (GivesPE w (LP.conjR la xs)) := by
  have hla := ha.il.len
  have hbw : Below w.heap.size w ((w.alloc (.cells #[.int .i64 la, .slice A n c] 24)).alloc (.cells #[.int .i64 0, .slice none 0 0] 24)) := ((Below.refl _ _).alloc (Nat.le_refl _) _).alloc (by simp) _
  have hA := (Blk.new w 24 #[.int .i64 la, .slice A n c]).alloc (.cells #[.int .i64 0, .slice none 0 0] 24)
  have hR := Blk.new (w.alloc (.cells #[.int .i64 la, .slice A n c] 24)) 24 #[.int .i64 0, .slice none 0 0]
  simp only [World.size_alloc] at hR
  have HA := hide (ha.below hbw)
  have HW := hide hbw
  clear ha hbw
  have BA := hide hA
  have BR := hide hR
  clear hA hR
  obtain ⟨T, hT⟩ : ∃ T, LP.conjR la xs = T := ⟨_, rfl⟩
  have HT := hide hT
  rw [hT]
  clear hT
  go_enter Try.func10, Try.ntmps10
  go_upto_region 1 with fail
  obtain ⟨w0, hw0⟩ : ∃ x, ((w.alloc (.cells #[.int .i64 la, .slice A n c] 24)).alloc (.cells #[.int .i64 0, .slice none 0 0] 24)) = x := ⟨_, rfl⟩
  rw [hw0] at HA HW BA BR ⊢
  clear hw0
  have hq0 := BA.out.cell 0
  have hq1 := BA.out.cell 1
  simp at hq0 hq1
  go_wp2_with fail
  refine (lcheck_any la A n c xs _ HA.out).mono ?_
  rintro e w1 ⟨rfl, hb⟩
  replace HA := hide (HA.out.below hb)
  replace HW := hide (HW.out.trans (hb.mono HW.out.size))
  replace BA := hide (BA.out.below hb BA.out.lt)
  replace BR := hide (BR.out.below hb BR.out.lt)
  clear hb hq0 hq1
  obtain ⟨p, hp⟩ : ∃ p, LP.pfl la xs = p := ⟨_, rfl⟩
  rw [hp]
  have HP := hide hp
  clear hp
  by_cases hp0 : p = 0
  case neg =>
    have HTE : Hid (T = (p, 0, [])) := hide (by
      rw [← HT.out, ← HP.out]
      unfold LP.conjR LP.one1
      rw [if_neg (by rw [HP.out]; exact hp0)])
    have hne : (p != 0) = true := by simpa using hp0
    have hf0 := BR.out.frozen 0
    have hf1 := BR.out.frozen 1
    have hr0 := BR.out.cell 0
    have hr1 := BR.out.cell 1
    simp at hr0 hr1
    have hlt := BR.out.lt
    clear hp0
    go_wp2_with fail
    refine bodyPost_ret (results_pe rfl _ rfl rfl ((BR.out.set_ 0 (.int .i64 0)).set_ 1 (.slice none 0 0))) rfl ?_
    rw [HTE.out]
    refine ⟨none, 0, 0, rfl, SL.nil_ _, fun h => absurd h (by omega), ?_⟩
    exact (HW.out.setCell (p := ⟨w.heap.size + 1, 0, none⟩) (by show w.heap.size ≤ w.heap.size + 1; omega) _).setCell (p := ⟨w.heap.size + 1, 1, none⟩) (by show w.heap.size ≤ w.heap.size + 1; omega) _
  subst hp0
  have HTE : Hid (T = LP.fit (LP.conj (LP.of la xs))) := hide (by
    rw [← HT.out]
    unfold LP.conjR LP.one1
    rw [if_pos HP.out])
  obtain ⟨pa1, pa2, pa3, _, _⟩ := LP.pfl_zero HP.out
  clear HP HT
  rw [hla] at pa1
  have hr0 := BA.out.cell 0
  have hr1 := BA.out.cell 1
  simp at hr0 hr1
  go_wp2_with fail
  refine (coefficients_b la A n c _).mono ?_
  rintro e w2 ⟨ca, rfl, hcb, hkb, hb⟩
  replace HA := hide (HA.out.below hb)
  replace HW := hide (HW.out.trans (hb.mono HW.out.size))
  replace BA := hide (BA.out.below hb BA.out.lt)
  replace BR := hide (BR.out.below hb BR.out.lt)
  have KA := hide hkb
  clear hb hr0 hr1 hkb
  go_upto_region 5 with fail
  have HB7 : Hid (Below w2.heap.size w2 (w2.alloc (.cells #[.func (.func 54) #[] #[.pointer (some ⟨ca, 0, none⟩)]] 54))) := hide ((Below.refl _ _).alloc (Nat.le_refl _) _)
  have K7 := hide (Blk.new w2 54 #[.func (.func 54) #[] #[.pointer (some ⟨ca, 0, none⟩)]])
  obtain ⟨b7, hb7⟩ : ∃ b, w2.heap.size = b := ⟨_, rfl⟩
  obtain ⟨wc, hwc⟩ : ∃ x, w2.alloc (.cells #[.func (.func 54) #[] #[.pointer (some ⟨ca, 0, none⟩)]] 54) = x := ⟨_, rfl⟩
  rw [hwc] at HB7 K7 ⊢
  replace HA := hide (HA.out.below HB7.out)
  replace HW := hide (HW.out.trans (HB7.out.mono HW.out.size))
  replace BA := hide (BA.out.below HB7.out BA.out.lt)
  replace BR := hide (BR.out.below HB7.out BR.out.lt)
  replace KA := hide (KA.out.below HB7.out KA.out.lt)
  rw [hb7] at K7 ⊢
  clear hb7 hwc HB7 hcb
  obtain ⟨lo, hlo⟩ : ∃ lo, 1 - (la + n) = lo := ⟨_, rfl⟩
  have hlo2 : lo.natAbs ≤ 100000 := by omega
  have hw1 : IntKind.i64.wrap (1 - (la + n)) = lo := by rw [IntKind.wrap_i64]; omega
  have hw2 : IntKind.i64.wrap (1 - la) = lo + n := by rw [IntKind.wrap_i64]; omega
  have HSU : Hid (∀ k, LP.co (LP.conj (LP.of la xs)) k ≠ 0 → lo ≤ k ∧ k < lo + n) := hide (fun k hk => by
    rw [LP.co_conj] at hk
    have h := LP.co_of_some hk
    rw [hla] at h
    omega)
  have HCL : Hid (∀ v, Below wc.heap.size wc v → AnsI Try.prog 40 [.pointer (some ⟨b7, 0, none⟩)] v.heap.size v lo (lo + n) (LP.co (LP.conj (LP.of la xs)))) := hide (fun v hv => ⟨eConjX, fun w' hw' e h1 h2 => by
    have hv' : Below wc.heap.size wc w' := hv.trans (hw'.mono hv.size)
    exact conjX_any la A n c xs b7 ca w' (HA.out.below hv') (by omega) (by omega) (K7.out.below hv' K7.out.lt) (KA.out.below hv' KA.out.lt) e (by omega)⟩)
  refine wp_region_noPanic ?_
  have hge : w.heap.size + 1 ≤ wc.heap.size := by have := BR.out.lt; omega
  have hS0 : Below wc.heap.size wc wc.drew := (Below.refl _ _).drew
  refine wp_region_held_drew (S := fun x => Below (w.heap.size + 1) wc x) (by kernel_rfl) (hS0.mono hge) (fun hT0 => ?_)
  refine wpAnyH_tk 0 (v := PV la A n c) rfl (by kernel_rfl) (by kernel_rfl) (by kernel_rfl) (yi rfl fun x hx => gives_loadRow rfl rfl (BA.out.below hx (by omega)) Try.underlying24 (by kernel_rfl) (by kernel_rfl)) hT0 ?_
  go_frame
  refine wpAnyH_tk 3 (v := .pointer (some ⟨w.heap.size, 0, none⟩)) rfl (by kernel_rfl) (by kernel_rfl) (by kernel_rfl) (yi rfl fun w' hw' => gives_fld rfl Try.underlying24 rfl rfl rfl (fun w => rfl)) hT0 ?_
  go_frame
  refine wpAnyH_tk 4 (v := .int .i64 la) rfl (by kernel_rfl) (by kernel_rfl) (by kernel_rfl) (yi rfl fun w' hw' => gives_load1 rfl (by kernel_rfl) rfl (by have h := (BA.out.below hw' (by omega)).cell 0; simpa using h)) hT0 ?_
  go_frame
  refine wpAnyH_tk 5 (v := .int .i64 (lo + n)) rfl (by kernel_rfl) (by kernel_rfl) (by kernel_rfl) (yi rfl fun w' hw' => gives_sub rfl rfl rfl hw2) hT0 ?_
  go_frame
  refine wpAnyH_tk 6 (v := .func (.func 40) #[] #[.pointer (some ⟨b7, 0, none⟩)]) rfl (by kernel_rfl) (by kernel_rfl) (by kernel_rfl) (yi rfl fun x hx => gives_makeFunc rfl rfl) hT0 ?_
  go_frame
  refine wpAnyH_1 1 rfl (by kernel_rfl) ?_
  refine wp_call [PV la A n c] rfl rfl eEndOf rfl ((endOf_b la A n c _ (by omega) (by omega)).mono ?_)
  rintro e v1 ⟨rfl, hb⟩
  have hS1 : Below wc.heap.size wc v1 := hS0.trans (hb.mono hS0.size)
  have hT1 : Below (w.heap.size + 1) wc v1 := hS1.mono hge
  refine ⟨_, rfl, hT1, ?_⟩
  clear hb
  go_frame
  refine wpAnyH_tk 2 (v := .int .i64 lo) rfl (by kernel_rfl) (by kernel_rfl) (by kernel_rfl) (yi rfl fun w' hw' => gives_sub rfl rfl rfl hw1) hT1 ?_
  go_frame
  refine wpAnyH_1 7 rfl (by kernel_rfl) ?_
  refine wp_call [.int .i64 lo, .int .i64 (lo + n), .func (.func 40) #[] #[.pointer (some ⟨b7, 0, none⟩)]] rfl rfl eCollect rfl ((collect_any (caps := [.pointer (some ⟨b7, 0, none⟩)]) lo n (LP.conj (LP.of la xs)) v1 (HCL.out v1 hS1) HSU.out hlo2 (by omega)).mono ?_)
  rintro e v3 ⟨R3, rn, rc, rfl, hsl, hnw, hb⟩
  have hS3 : Below wc.heap.size wc v3 := hS1.trans (hb.mono hS1.size)
  have hfar : 0 < rn → ∀ ad, R3 = some ad → wc.heap.size ≤ ad.block := fun h ad e => by have := hnw h ad e; have := hS1.size; omega
  have HSL := hide hsl
  clear hb hnw hsl
  have hT3 : Below (w.heap.size + 1) wc v3 := hS3.mono hge
  refine ⟨_, rfl, hT3, ?_⟩
  generalize LP.fit (LP.conj (LP.of la xs)) = Z at *
  go_frame
  refine wpAnyH_tk 8 (v := PV Z.2.1 R3 rn rc) rfl (by kernel_rfl) (by kernel_rfl) (by kernel_rfl) (yi rfl fun w' hw' => gives_extract rfl rfl rfl) hT3 ?_
  go_frame
  refine wpAnyH_tk 9 (v := .int .i64 Z.1) rfl (by kernel_rfl) (by kernel_rfl) (by kernel_rfl) (yi rfl fun w' hw' => gives_extract rfl rfl rfl) hT3 ?_
  go_frame
  have hbr := BR.out.below hS3 BR.out.lt
  have hlr := BR.out.lt
  refine wpAnyH_1 10 rfl (by kernel_rfl) ?_
  have HW9 : Below w.heap.size w (v3.setRow (w.heap.size + 1) #[.int .i64 Z.2.1, .slice R3 rn rc]) := Below.setRow_ (HW.out.trans (hS3.mono HW.out.size)) (by omega) _
  have hT4 : Below (w.heap.size + 1) wc (v3.setRow (w.heap.size + 1) #[.int .i64 Z.2.1, .slice R3 rn rc]) := Below.setRow_ hT3 (Nat.le_refl _) _
  have HSL9 := HSL.out.setRow_ (b := w.heap.size + 1) (fun h ad e => by have := hfar h ad e; omega) #[.int .i64 Z.2.1, .slice R3 rn rc]
  refine wp_storeRow rfl rfl rfl hbr (by kernel_rfl) rfl (by kernel_rfl) ⟨hT4, ?_⟩
  go_frame
  refine wpAnyH_tk 11 (v := .int .i64 Z.1) rfl (by kernel_rfl) (by kernel_rfl) (by kernel_rfl) (yi rfl fun w' hw' => gives_move (.inr rfl) rfl) hT4 ?_
  go_frame
  refine wpAnyH_done (by kernel_rfl) (noPanic_mk ?_) _
  have hbk9 : Blk (v3.setRow (w.heap.size + 1) #[.int .i64 Z.2.1, .slice R3 rn rc]) (w.heap.size + 1) 24 #[.int .i64 Z.2.1, .slice R3 rn rc] := setRow_heap _ _ _ _ _ _ hbr
  have HW10 := hide HW9
  have HSL10 := hide HSL9
  have HBK10 := hide hbk9
  have HFAR := hide hfar
  clear hS0 hS1 hS3 hT0 hT1 hT3 hT4 HW9 HSL9 hbk9 hbr hfar hlo hw1 hw2
  generalize v3.setRow (w.heap.size + 1) #[.int .i64 Z.2.1, .slice R3 rn rc] = v4 at *
  go_wp2_with fail
  refine bodyPost_ret (results_pe rfl _ rfl rfl HBK10.out) rfl ?_
  rw [HTE.out]
  exact ⟨R3, rn, rc, rfl, HSL10.out, fun h ad e => by have := HFAR.out h ad e; omega, HW10.out⟩
end Go.Proofs.Ytbajelbfgekilaa
