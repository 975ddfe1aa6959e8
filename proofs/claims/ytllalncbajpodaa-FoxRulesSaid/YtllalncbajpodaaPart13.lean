/- Several texts of the walk in one. -/
import Derived.Test.YtllalncbajpodaaPart12
import Derived.Test.YtllalncbajpodaaPart11
import Derived.Test.YtllalncbajpodaaPart5
import Derived.Test.YtllalncbajpodaaPart6
import Derived.Test.YtllalncbajpodaaPart7
/- Package laurent: Mul. -/
namespace Go.Proofs.Ytllalncbajpodaa
set_option linter.unusedVariables false
set_option linter.unusedSimpArgs false
open Go.RowKit

theorem LP.co_mul_supp {la lb : Int} {xs ys : List Int} {k : Int} (h : LP.co (LP.of la xs * LP.of lb ys) k ≠ 0) : la + lb ≤ k ∧ k < la + lb + ((xs.length + ys.length : Nat) : Int) := by
  by_cases hh : la + lb ≤ k ∧ k < la + lb + ((xs.length + ys.length : Nat) : Int)
  · exact hh
  · refine absurd ?_ h
    rw [LP.co_of_mul]
    refine CR.sumN_none fun i hi => ?_
    rw [LP.co_of, if_neg (by omega), Int.mul_zero]
theorem LP.getD_pfl {lo : Int} {cs : List Int} (h : LP.pfl lo cs = 0) (j : Nat) : (cs.getD j 0).natAbs ≤ 100000000 := by
  by_cases hj : j < cs.length
  · exact (LP.pfl_zero h).2.2.2.2 _ (getD_mem' hj)
  · rw [List.getD_eq_getElem?_getD, List.getElem?_eq_none (by omega)]; decide

set_option maxRecDepth 100000 in
set_option maxHeartbeats 8000000 in
theorem lmul_any (la : Int) (A : Option Addr) (n c : Nat) (xs : List Int) (lb : Int) (B : Option Addr) (m d : Nat) (ys : List Int) (w : World) (ha : SL w A n c xs) (hb : SL w B m d ys) :
    Calls Try.prog 40 #[PV la A n c, PV lb B m d] w (GivesPE w (LP.mulR la xs lb ys)) := by
  have hla := ha.il.len
  have hlb := hb.il.len
  have hbw : Below w.heap.size w (((w.alloc (.cells #[.int .i64 la, .slice A n c] 27)).alloc (.cells #[.int .i64 lb, .slice B m d] 27)).alloc (.cells #[.int .i64 0, .slice none 0 0] 27)) := (((Below.refl _ _).alloc (Nat.le_refl _) _).alloc (by simp) _).alloc (by simp; omega) _
  have hA := ((Blk.new w 27 #[.int .i64 la, .slice A n c]).alloc (.cells #[.int .i64 lb, .slice B m d] 27)).alloc (.cells #[.int .i64 0, .slice none 0 0] 27)
  have hB := (Blk.new (w.alloc (.cells #[.int .i64 la, .slice A n c] 27)) 27 #[.int .i64 lb, .slice B m d]).alloc (.cells #[.int .i64 0, .slice none 0 0] 27)
  have hR := Blk.new ((w.alloc (.cells #[.int .i64 la, .slice A n c] 27)).alloc (.cells #[.int .i64 lb, .slice B m d] 27)) 27 #[.int .i64 0, .slice none 0 0]
  simp only [World.size_alloc] at hB hR
  have HA := hide (ha.below hbw)
  have HB := hide (hb.below hbw)
  have HW := hide hbw
  clear ha hb hbw
  have BA := hide hA
  have BB := hide hB
  have BR := hide hR
  clear hA hB hR
  obtain ⟨T, hT⟩ : ∃ T, LP.mulR la xs lb ys = T := ⟨_, rfl⟩
  have HT := hide hT
  rw [hT]
  clear hT
  go_enter Try.func40, Try.ntmps40
  go_upto_region 1 with fail
  obtain ⟨w0, hw0⟩ : ∃ x, (((w.alloc (.cells #[.int .i64 la, .slice A n c] 27)).alloc (.cells #[.int .i64 lb, .slice B m d] 27)).alloc (.cells #[.int .i64 0, .slice none 0 0] 27)) = x := ⟨_, rfl⟩
  rw [hw0] at HA HB HW BA BB BR ⊢
  clear hw0
  have hq0 := BA.out.cell 0
  have hq1 := BA.out.cell 1
  have hr0 := BB.out.cell 0
  have hr1 := BB.out.cell 1
  simp at hq0 hq1 hr0 hr1
  go_wp2_with fail
  refine (checkBoth_any la A n c xs lb B m d ys _ HA.out HB.out).mono ?_
  rintro e w1 ⟨rfl, hb⟩
  replace HA := hide (HA.out.below hb)
  replace HB := hide (HB.out.below hb)
  replace HW := hide (HW.out.trans (hb.mono HW.out.size))
  replace BA := hide (BA.out.below hb BA.out.lt)
  replace BB := hide (BB.out.below hb BB.out.lt)
  replace BR := hide (BR.out.below hb BR.out.lt)
  clear hb hq0 hq1 hr0 hr1
  obtain ⟨p, hp⟩ : ∃ p, LP.pfl2 la xs lb ys = p := ⟨_, rfl⟩
  rw [hp]
  have HP := hide hp
  clear hp
  by_cases hp0 : p = 0
  case neg =>
    have HTE : Hid (T = (p, 0, [])) := hide (by
      rw [← HT.out, ← HP.out]
      have hp2 : LP.pfl2 la xs lb ys ≠ 0 := by rw [HP.out]; exact hp0
      unfold LP.mulR LP.two2
      unfold LP.pfl2 at hp2 ⊢
      by_cases h : LP.pfl la xs = 0
      · rw [if_pos h, if_pos h] at *; rw [if_neg hp2]
      · rw [if_neg h, if_neg h])
    have hne : (p != 0) = true := by simpa using hp0
    have hf0 := BR.out.frozen 0
    have hf1 := BR.out.frozen 1
    have hr0 := BR.out.cell 0
    have hr1 := BR.out.cell 1
    simp at hr0 hr1
    have hlt := BR.out.lt
    clear hp0
    go_wp2_with fail
    refine bodyPost_ret (results_pe rfl _ rfl rfl ((BR.out.set_ 0 (.int .i64 0)).set_ 1 (.slice none 0 0))) rfl ?_
    rw [HTE.out]
    refine ⟨none, 0, 0, rfl, SL.nil_ _, fun h => absurd h (by omega), ?_⟩
    exact (HW.out.setCell (p := ⟨w.heap.size + 1 + 1, 0, none⟩) (by show w.heap.size ≤ w.heap.size + 1 + 1; omega) _).setCell (p := ⟨w.heap.size + 1 + 1, 1, none⟩) (by show w.heap.size ≤ w.heap.size + 1 + 1; omega) _
  subst hp0
  have hpf : LP.pfl la xs = 0 ∧ LP.pfl lb ys = 0 := by
    have h := HP.out
    unfold LP.pfl2 at h
    by_cases h1 : LP.pfl la xs = 0
    · rw [if_pos h1] at h; exact ⟨h1, h⟩
    · rw [if_neg h1] at h; exact absurd h h1
  have HTE : Hid (T = LP.fit (LP.of la xs * LP.of lb ys)) := hide (by
    rw [← HT.out]
    unfold LP.mulR LP.two2
    rw [if_pos hpf.1, if_pos hpf.2])
  obtain ⟨pa1, pa2, pa3, _, _⟩ := LP.pfl_zero hpf.1
  obtain ⟨pb1, pb2, pb3, _, _⟩ := LP.pfl_zero hpf.2
  have HXA := hide (LP.getD_pfl hpf.1)
  have HXB := hide (LP.co_pfl hpf.2)
  have HSU := hide (fun k => LP.co_mul_supp (la := la) (lb := lb) (xs := xs) (ys := ys) (k := k))
  rw [hla, hlb] at HSU
  clear hpf HP HT
  rw [hla] at pa1
  rw [hlb] at pb1
  have hr0 := BB.out.cell 0
  have hr1 := BB.out.cell 1
  simp at hr0 hr1
  go_wp2_with fail
  refine (coefficients_b lb B m d _).mono ?_
  rintro e w2 ⟨cb, rfl, hcb, hkb, hb⟩
  replace HA := hide (HA.out.below hb)
  replace HB := hide (HB.out.below hb)
  replace HW := hide (HW.out.trans (hb.mono HW.out.size))
  replace BA := hide (BA.out.below hb BA.out.lt)
  replace BB := hide (BB.out.below hb BB.out.lt)
  replace BR := hide (BR.out.below hb BR.out.lt)
  have KB := hide hkb
  clear hb hr0 hr1 hkb
  go_upto_region 5 with fail
  have HB7 : Hid (Below w2.heap.size w2 (w2.alloc (.cells #[.func (.func 54) #[] #[.pointer (some ⟨cb, 0, none⟩)]] 54))) := hide ((Below.refl _ _).alloc (Nat.le_refl _) _)
  have K7 := hide (Blk.new w2 54 #[.func (.func 54) #[] #[.pointer (some ⟨cb, 0, none⟩)]])
  obtain ⟨b7, hb7⟩ : ∃ b, w2.heap.size = b := ⟨_, rfl⟩
  obtain ⟨wc, hwc⟩ : ∃ x, w2.alloc (.cells #[.func (.func 54) #[] #[.pointer (some ⟨cb, 0, none⟩)]] 54) = x := ⟨_, rfl⟩
  rw [hwc] at HB7 K7 ⊢
  replace HA := hide (HA.out.below HB7.out)
  replace HB := hide (HB.out.below HB7.out)
  replace HW := hide (HW.out.trans (HB7.out.mono HW.out.size))
  replace BA := hide (BA.out.below HB7.out BA.out.lt)
  replace BB := hide (BB.out.below HB7.out BB.out.lt)
  replace BR := hide (BR.out.below HB7.out BR.out.lt)
  replace KB := hide (KB.out.below HB7.out KB.out.lt)
  rw [hb7] at K7 ⊢
  clear hb7 hwc HB7 hcb
  obtain ⟨lo, hlo⟩ : ∃ lo, la + lb = lo := ⟨_, rfl⟩
  obtain ⟨N, hN⟩ : ∃ N : Nat, n + m = N := ⟨_, rfl⟩
  have hN2 : N ≤ 100000 := by omega
  have hlo2 : lo.natAbs ≤ 100000 := by omega
  have hw1 : IntKind.i64.wrap (la + lb) = lo := by rw [IntKind.wrap_i64]; omega
  have hw2 : IntKind.i64.wrap (la + n + (lb + m)) = lo + N := by rw [IntKind.wrap_i64]; omega
  rw [hlo, hN] at HSU
  have HCL : Hid (∀ v, Below wc.heap.size wc v → AnsI Try.prog 50 [.pointer (some ⟨w.heap.size, 0, none⟩), .pointer (some ⟨b7, 0, none⟩)] v.heap.size v lo (lo + N) (LP.co (LP.of la xs * LP.of lb ys))) := hide (fun v hv => ⟨eMulX, fun w' hw' e h1 h2 => by
    have hv' : Below wc.heap.size wc w' := hv.trans (hw'.mono hv.size)
    exact mulX_any la A n c xs lb B m d ys _ b7 cb w' (HA.out.below hv') (HB.out.below hv') (by omega) pa1 (by omega) pb1 HXA.out HXB.out (BA.out.below hv' BA.out.lt) (K7.out.below hv' K7.out.lt) (KB.out.below hv' KB.out.lt) e (by omega)⟩)
  refine wp_region_noPanic ?_
  have hge : w.heap.size + 1 + 1 ≤ wc.heap.size := by have := BR.out.lt; omega
  have hS0 : Below wc.heap.size wc wc.drew := (Below.refl _ _).drew
  refine wp_region_held_drew (S := fun x => Below (w.heap.size + 1 + 1) wc x) (by kernel_rfl) (hS0.mono hge) (fun hT0 => ?_)
  refine wpAnyH_tk 0 (v := .pointer (some ⟨w.heap.size, 0, none⟩)) rfl (by kernel_rfl) (by kernel_rfl) (by kernel_rfl) (yi rfl fun w' hw' => gives_fld rfl Try.underlying27 rfl rfl rfl (fun w => rfl)) hT0 ?_
  go_frame
  refine wpAnyH_tk 1 (v := .int .i64 la) rfl (by kernel_rfl) (by kernel_rfl) (by kernel_rfl) (yi rfl fun w' hw' => gives_load1 rfl (by kernel_rfl) rfl (by have h := (BA.out.below hw' (by omega)).cell 0; simpa using h)) hT0 ?_
  go_frame
  refine wpAnyH_tk 2 (v := .pointer (some ⟨w.heap.size + 1, 0, none⟩)) rfl (by kernel_rfl) (by kernel_rfl) (by kernel_rfl) (yi rfl fun w' hw' => gives_fld rfl Try.underlying27 rfl rfl rfl (fun w => rfl)) hT0 ?_
  go_frame
  refine wpAnyH_tk 3 (v := .int .i64 lb) rfl (by kernel_rfl) (by kernel_rfl) (by kernel_rfl) (yi rfl fun w' hw' => gives_load1 rfl (by kernel_rfl) rfl (by have h := (BB.out.below hw' (by omega)).cell 0; simpa using h)) hT0 ?_
  go_frame
  refine wpAnyH_tk 4 (v := .int .i64 lo) rfl (by kernel_rfl) (by kernel_rfl) (by kernel_rfl) (yi rfl fun w' hw' => gives_add rfl rfl rfl hw1) hT0 ?_
  go_frame
  refine wpAnyH_tk 5 (v := PV la A n c) rfl (by kernel_rfl) (by kernel_rfl) (by kernel_rfl) (yi rfl fun x hx => gives_loadRow rfl rfl (BA.out.below hx (by omega)) Try.underlying27 (by kernel_rfl) (by kernel_rfl)) hT0 ?_
  go_frame
  refine wpAnyH_tk 7 (v := PV lb B m d) rfl (by kernel_rfl) (by kernel_rfl) (by kernel_rfl) (yi rfl fun x hx => gives_loadRow rfl rfl (BB.out.below hx (by omega)) Try.underlying27 (by kernel_rfl) (by kernel_rfl)) hT0 ?_
  go_frame
  refine wpAnyH_tk 10 (v := .func (.func 50) #[] #[.pointer (some ⟨w.heap.size, 0, none⟩), .pointer (some ⟨b7, 0, none⟩)]) rfl (by kernel_rfl) (by kernel_rfl) (by kernel_rfl) (yi rfl fun x hx => gives_makeFunc rfl rfl) hT0 ?_
  go_frame
  refine wpAnyH_1 6 rfl (by kernel_rfl) ?_
  refine wp_call [PV la A n c] rfl rfl eEndOf rfl ((endOf_b la A n c _ (by omega) (by omega)).mono ?_)
  rintro e v1 ⟨rfl, hb⟩
  have hS1 : Below wc.heap.size wc v1 := hS0.trans (hb.mono hS0.size)
  have hT1 : Below (w.heap.size + 1 + 1) wc v1 := hS1.mono hge
  refine ⟨_, rfl, hT1, ?_⟩
  clear hb
  go_frame
  refine wpAnyH_1 8 rfl (by kernel_rfl) ?_
  refine wp_call [PV lb B m d] rfl rfl eEndOf rfl ((endOf_b lb B m d _ (by omega) (by omega)).mono ?_)
  rintro e v2 ⟨rfl, hb⟩
  have hS2 : Below wc.heap.size wc v2 := hS1.trans (hb.mono hS1.size)
  have hT2 : Below (w.heap.size + 1 + 1) wc v2 := hS2.mono hge
  refine ⟨_, rfl, hT2, ?_⟩
  clear hb
  go_frame
  refine wpAnyH_tk 9 (v := .int .i64 (lo + N)) rfl (by kernel_rfl) (by kernel_rfl) (by kernel_rfl) (yi rfl fun w' hw' => gives_add rfl rfl rfl hw2) hT2 ?_
  go_frame
  refine wpAnyH_1 11 rfl (by kernel_rfl) ?_
  refine wp_call [.int .i64 lo, .int .i64 (lo + N), .func (.func 50) #[] #[.pointer (some ⟨w.heap.size, 0, none⟩), .pointer (some ⟨b7, 0, none⟩)]] rfl rfl eCollect rfl ((collect_any (caps := [.pointer (some ⟨w.heap.size, 0, none⟩), .pointer (some ⟨b7, 0, none⟩)]) lo N (LP.of la xs * LP.of lb ys) v2 (HCL.out v2 hS2) HSU.out hlo2 hN2).mono ?_)
  rintro e v3 ⟨R3, rn, rc, rfl, hsl, hnw, hb⟩
  have hS3 : Below wc.heap.size wc v3 := hS2.trans (hb.mono hS2.size)
  have hfar : 0 < rn → ∀ ad, R3 = some ad → wc.heap.size ≤ ad.block := fun h ad e => by have := hnw h ad e; have := hS2.size; omega
  have HSL := hide hsl
  clear hb hnw hsl
  have hT3 : Below (w.heap.size + 1 + 1) wc v3 := hS3.mono hge
  refine ⟨_, rfl, hT3, ?_⟩
  generalize LP.fit (LP.of la xs * LP.of lb ys) = Z at *
  go_frame
  refine wpAnyH_tk 12 (v := PV Z.2.1 R3 rn rc) rfl (by kernel_rfl) (by kernel_rfl) (by kernel_rfl) (yi rfl fun w' hw' => gives_extract rfl rfl rfl) hT3 ?_
  go_frame
  refine wpAnyH_tk 13 (v := .int .i64 Z.1) rfl (by kernel_rfl) (by kernel_rfl) (by kernel_rfl) (yi rfl fun w' hw' => gives_extract rfl rfl rfl) hT3 ?_
  go_frame
  have hbr := BR.out.below hS3 BR.out.lt
  have hlr := BR.out.lt
  refine wpAnyH_1 14 rfl (by kernel_rfl) ?_
  have HW9 : Below w.heap.size w (v3.setRow (w.heap.size + 1 + 1) #[.int .i64 Z.2.1, .slice R3 rn rc]) := Below.setRow_ (HW.out.trans (hS3.mono HW.out.size)) (by omega) _
  have hT4 : Below (w.heap.size + 1 + 1) wc (v3.setRow (w.heap.size + 1 + 1) #[.int .i64 Z.2.1, .slice R3 rn rc]) := Below.setRow_ hT3 (Nat.le_refl _) _
  have HSL9 := HSL.out.setRow_ (b := w.heap.size + 1 + 1) (fun h ad e => by have := hfar h ad e; omega) #[.int .i64 Z.2.1, .slice R3 rn rc]
  refine wp_storeRow rfl rfl rfl hbr (by kernel_rfl) rfl (by kernel_rfl) ⟨hT4, ?_⟩
  go_frame
  refine wpAnyH_tk 15 (v := .int .i64 Z.1) rfl (by kernel_rfl) (by kernel_rfl) (by kernel_rfl) (yi rfl fun w' hw' => gives_move (.inr rfl) rfl) hT4 ?_
  go_frame
  refine wpAnyH_done (by kernel_rfl) (noPanic_mk ?_) _
  have hbk9 : Blk (v3.setRow (w.heap.size + 1 + 1) #[.int .i64 Z.2.1, .slice R3 rn rc]) (w.heap.size + 1 + 1) 27 #[.int .i64 Z.2.1, .slice R3 rn rc] := setRow_heap _ _ _ _ _ _ hbr
  have HW10 := hide HW9
  have HSL10 := hide HSL9
  have HBK10 := hide hbk9
  have HFAR := hide hfar
  clear hS0 hS1 hS2 hS3 hT0 hT1 hT2 hT3 hT4 HW9 HSL9 hbk9 hbr hfar hlo hN hw1 hw2
  generalize v3.setRow (w.heap.size + 1 + 1) #[.int .i64 Z.2.1, .slice R3 rn rc] = v4 at *
  go_wp2_with fail
  refine bodyPost_ret (results_pe rfl _ rfl rfl HBK10.out) rfl ?_
  rw [HTE.out]
  exact ⟨R3, rn, rc, rfl, HSL10.out, fun h ad e => by have := HFAR.out h ad e; omega, HW10.out⟩
end Go.Proofs.Ytllalncbajpodaa
/- Package laurent answers as the document asks. -/
namespace Go.Proofs.Ytllalncbajpodaa
theorem polyC : PolyC where
  check la A n c xs w ha _ := lcheck_any la A n c xs w ha -- 53
  add la A n c xs lb B m d ys w ha hb _ _ := ladd_any la A n c xs lb B m d ys w ha hb -- 29
  sub la A n c xs lb B m d ys w ha hb _ _ := lsub_any la A n c xs lb B m d ys w ha hb -- 26
  mul la A n c xs lb B m d ys w ha hb _ _ := lmul_any la A n c xs lb B m d ys w ha hb -- 40
end Go.Proofs.Ytllalncbajpodaa
/- Package foxcalc answers as the document asks. -/
namespace Go.Proofs.Ytllalncbajpodaa
end Go.Proofs.Ytllalncbajpodaa
