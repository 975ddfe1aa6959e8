/- Package laurent: Normalize. -/
import Derived.Test.YtbajelbfgekilaaLa9
namespace Go.Proofs.Ytbajelbfgekilaa
set_option linter.unusedVariables false
set_option linter.unusedSimpArgs false
open Go.RowKit

theorem LP.sgL_natAbs (A : List Int) : (sgL A).natAbs = 1 := by rcases sgL_cases A with h | h <;> rw [h] <;> rfl
theorem LP.co_normC (la : Int) (A : List Int) {k : Int} (h0 : 0 ≤ k) (h1 : k < A.length) : co (of 0 (normC A)) k = sgL A * co (of la A) (la + k) := by
  rw [co_of, co_of]
  have hl : (normC A).length = A.length := by unfold normC; rw [List.length_map]
  rw [if_pos (by rw [hl]; omega), if_pos (by omega)]
  unfold normC
  rw [getD_smul, show (k - 0).toNat = (la + k - la).toNat by omega]
theorem LP.normC_cano {la : Int} {A : List Int} (h : pfl la A = 0) : Cano 0 (normC A) ∧ pfl 0 (normC A) = 0 := by
  obtain ⟨h1, _, _, hc, h5⟩ := pfl_zero h
  have hl : (normC A).length = A.length := by unfold normC; rw [List.length_map]
  have hs := sgL_cases A
  have hC : Cano 0 (normC A) := by
    rcases hc with ⟨h, _⟩ | ⟨h, hf, hla⟩
    · subst h; exact .inl ⟨rfl, rfl⟩
    · refine .inr ⟨fun e => h (by have := congrArg List.length e; rw [hl] at this; exact List.eq_nil_of_length_eq_zero this), ?_, ?_⟩
      · unfold normC; rw [getD_smul]; rcases hs with e | e <;> rw [e] <;> omega
      · rw [hl]; unfold normC; rw [getD_smul]; rcases hs with e | e <;> rw [e] <;> omega
  refine ⟨hC, pfl_ok (by rw [hl]; exact h1) (by omega) (by omega) hC fun c hm => ?_⟩
  unfold normC at hm
  obtain ⟨x, hx, rfl⟩ := List.mem_map.1 hm
  rw [Int.natAbs_mul, sgL_natAbs, Nat.one_mul]
  exact h5 x hx
theorem LP.fit_normC {la : Int} {A : List Int} (h : pfl la A = 0) : fit (of 0 (normC A)) = normR la A := by
  obtain ⟨hc, hp⟩ := normC_cano h
  have e := canon_of hc
  unfold normR one1 fit
  rw [if_pos h, e, if_pos hp]

theorem eNormX : ∀ args w, (callFunc 41 args).run Try.prog w = .ok (.enter 41 args) w := enters (fn := Try.f41) (by kernel_rfl) (by kernel_rfl) (by kernel_rfl)
set_option maxRecDepth 100000 in
set_option maxHeartbeats 4000000 in
theorem normX_any (la : Int) (A : Option Addr) (n c : Nat) (xs : List Int) (bs b7 ba ca : Nat) (s : Int) (w : World) (ha : SL w A n c xs) (h1 : la.natAbs ≤ 1000000) (h2 : n ≤ 1000000) (hs : s = 1 ∨ s = -1) (hy : ∀ k, (LP.co (LP.of la xs) k).natAbs ≤ 100000000)
    (ks : Blk w bs 3 #[.int .i64 s]) (k7 : Blk w b7 54 #[.func (.func 54) #[] #[.pointer (some ⟨ca, 0, none⟩)]]) (kb : Blk w ba 24 #[.int .i64 la, .slice A n c]) (ka : Blk w ca 24 #[.int .i64 la, .slice A n c]) (e : Int) (he : e.natAbs ≤ 10000000) :
    Calls Try.prog 41 #[.int .i64 e, .pointer (some ⟨bs, 0, none⟩), .pointer (some ⟨b7, 0, none⟩), .pointer (some ⟨ba, 0, none⟩)] w fun r w' => r = .returned (.int .i64 (s * LP.co (LP.of la xs) (la + e))) ∧ Below w.heap.size w w' := by
  have HA := hide ha
  have KS := hide ks
  have K7 := hide k7
  have KB := hide kb
  have KA := hide ka
  have hw : IntKind.i64.wrap (la + e) = la + e := by rw [IntKind.wrap_i64]; omega
  have hyv := hy (la + e)
  have hw2 : IntKind.i64.wrap (s * LP.co (LP.of la xs) (la + e)) = s * LP.co (LP.of la xs) (la + e) := by
    rw [IntKind.wrap_i64]
    rcases hs with h | h <;> rw [h] <;> omega
  clear ha ks k7 kb ka hy hyv
  go_enter Try.func41, Try.ntmps41
  go_upto_region 1 with fail
  refine wp_region_noPanic ?_
  refine wp_region_held_drew (S := fun x => Below w.heap.size w x) (by kernel_rfl) (Below.refl _ _).drew (fun hS0 => ?_)
  refine wpAnyH_tk 0 (v := .int .i64 s) rfl (by kernel_rfl) (by kernel_rfl) (by kernel_rfl) (yi rfl fun w' hw' => gives_load1 rfl (by kernel_rfl) rfl (by have h := (KS.out.below hw' KS.out.lt).cell 0; simpa using h)) hS0 ?_
  go_frame
  refine wpAnyH_tk 1 (v := .func (.func 54) #[] #[.pointer (some ⟨ca, 0, none⟩)]) rfl (by kernel_rfl) (by kernel_rfl) (by kernel_rfl) (yi rfl fun w' hw' => gives_load1 rfl (by kernel_rfl) rfl (by have h := (K7.out.below hw' K7.out.lt).cell 0; simpa using h)) hS0 ?_
  go_frame
  refine wpAnyH_tk 2 (v := .pointer (some ⟨ba, 0, none⟩)) rfl (by kernel_rfl) (by kernel_rfl) (by kernel_rfl) (yi rfl fun w' hw' => gives_fld rfl Try.underlying24 rfl rfl rfl (fun w => rfl)) hS0 ?_
  go_frame
  refine wpAnyH_tk 3 (v := .int .i64 la) rfl (by kernel_rfl) (by kernel_rfl) (by kernel_rfl) (yi rfl fun w' hw' => gives_load1 rfl (by kernel_rfl) rfl (by have h := (KB.out.below hw' KB.out.lt).cell 0; simpa using h)) hS0 ?_
  go_frame
  refine wpAnyH_tk 4 (v := .int .i64 e) rfl (by kernel_rfl) (by kernel_rfl) (by kernel_rfl) (yi rfl fun w' hw' => gives_move (.inl rfl) rfl) hS0 ?_
  go_frame
  refine wpAnyH_tk 5 (v := .int .i64 (la + e)) rfl (by kernel_rfl) (by kernel_rfl) (by kernel_rfl) (yi rfl fun w' hw' => gives_add rfl rfl rfl hw) hS0 ?_
  go_frame
  refine wpAnyH_1 6 rfl (by kernel_rfl) ?_
  refine wp_callV [.int .i64 (la + e)] rfl rfl eCoeff (cap := [.pointer (some ⟨ca, 0, none⟩)]) rfl ((coeff_any la A n c xs ca (la + e) _ (HA.out.below hS0) (KA.out.below hS0 KA.out.lt) h1 h2 (by omega)).mono ?_)
  rintro r v1 ⟨rfl, hb⟩
  have hS1 : Below w.heap.size w v1 := hS0.trans (hb.mono hS0.size)
  refine ⟨_, rfl, hS1, ?_⟩
  clear hb
  go_frame
  refine wpAnyH_tk 7 (v := .int .i64 (s * LP.co (LP.of la xs) (la + e))) rfl (by kernel_rfl) (by kernel_rfl) (by kernel_rfl) (yi rfl fun w' hw' => gives_mul rfl rfl rfl hw2) hS1 ?_
  go_frame
  refine wpAnyH_tk 8 (v := .int .i64 (s * LP.co (LP.of la xs) (la + e))) rfl (by kernel_rfl) (by kernel_rfl) (by kernel_rfl) (yi rfl fun w' hw' => gives_move (.inr rfl) rfl) hS1 ?_
  go_frame
  refine wpAnyH_done (by kernel_rfl) (noPanic_mk ?_) _
  have HS := hide hS1
  clear hS0 hS1 hw hw2
  obtain ⟨z, hz⟩ : ∃ z, s * LP.co (LP.of la xs) (la + e) = z := ⟨_, rfl⟩
  have HZ := hide hz
  rw [hz]
  clear hz
  go_wp2_with fail
  go_ret
  rw [HZ.out]
  exact ⟨rfl, HS.out⟩

theorem collect0_any {fid : FuncId} {caps : List Value} (n : Nat) (z : LP) (w : World) (H : AnsI Try.prog fid caps w.heap.size w 0 n (LP.co z)) (hz : ∀ k, LP.co z k ≠ 0 → 0 ≤ k ∧ k < n) (hn : n ≤ 100000) :
    Calls Try.prog 38 #[.int .i64 0, .int .i64 n, .func (.func fid) #[] caps.toArray] w (GivesPE w (LP.fit z)) := by
  have h := collect_any (fid := fid) (caps := caps) 0 n z w (by rw [Int.zero_add]; exact H) (by rw [Int.zero_add]; exact hz) (by decide) hn
  rwa [Int.zero_add] at h

set_option maxRecDepth 100000 in
set_option maxHeartbeats 8000000 in
theorem lnorm_any (la : Int) (A : Option Addr) (n c : Nat) (xs : List Int) (w : World) (ha : SL w A n c xs) :
    Calls Try.prog 11 #[PV la A n c] w (GivesPE w (LP.normR la xs)) := by
  have hla := ha.il.len
  have HIN := hide ha.inside
  have hbw : Below w.heap.size w ((w.alloc (.cells #[.int .i64 la, .slice A n c] 24)).alloc (.cells #[.int .i64 0, .slice none 0 0] 24)) := ((Below.refl _ _).alloc (Nat.le_refl _) _).alloc (by simp) _
  have hA := (Blk.new w 24 #[.int .i64 la, .slice A n c]).alloc (.cells #[.int .i64 0, .slice none 0 0] 24)
  have hR := Blk.new (w.alloc (.cells #[.int .i64 la, .slice A n c] 24)) 24 #[.int .i64 0, .slice none 0 0]
  simp only [World.size_alloc] at hR
  have HA := hide (ha.below hbw)
  have HW := hide hbw
  clear ha hbw
  have BA := hide hA
  have BR := hide hR
  clear hA hR
  obtain ⟨T, hT⟩ : ∃ T, LP.normR la xs = T := ⟨_, rfl⟩
  have HT := hide hT
  rw [hT]
  clear hT
  go_enter Try.func11, Try.ntmps11
  go_upto_region 1 with fail
  obtain ⟨w0, hw0⟩ : ∃ x, ((w.alloc (.cells #[.int .i64 la, .slice A n c] 24)).alloc (.cells #[.int .i64 0, .slice none 0 0] 24)) = x := ⟨_, rfl⟩
  rw [hw0] at HA HW BA BR ⊢
  clear hw0
  have hq0 := BA.out.cell 0
  have hq1 := BA.out.cell 1
  simp at hq0 hq1
  go_wp2_with fail
  refine (lcheck_any la A n c xs _ HA.out).mono ?_
  rintro e w1 ⟨rfl, hb⟩
  replace HA := hide (HA.out.below hb)
  replace HW := hide (HW.out.trans (hb.mono HW.out.size))
  replace BA := hide (BA.out.below hb BA.out.lt)
  replace BR := hide (BR.out.below hb BR.out.lt)
  clear hb hq0 hq1
  obtain ⟨p, hp⟩ : ∃ p, LP.pfl la xs = p := ⟨_, rfl⟩
  rw [hp]
  have HP := hide hp
  clear hp
  by_cases hp0 : p = 0
  case neg =>
    have HTE : Hid (T = (p, 0, [])) := hide (by
      rw [← HT.out, ← HP.out]
      unfold LP.normR LP.one1
      rw [if_neg (by rw [HP.out]; exact hp0)])
    have hne : (p != 0) = true := by simpa using hp0
    have hf0 := BR.out.frozen 0
    have hf1 := BR.out.frozen 1
    have hr0 := BR.out.cell 0
    have hr1 := BR.out.cell 1
    simp at hr0 hr1
    have hlt := BR.out.lt
    clear hp0
    go_wp2_with fail
    refine bodyPost_ret (results_pe rfl _ rfl rfl ((BR.out.set_ 0 (.int .i64 0)).set_ 1 (.slice none 0 0))) rfl ?_
    rw [HTE.out]
    refine ⟨none, 0, 0, rfl, SL.nil_ _, fun h => absurd h (by omega), ?_⟩
    exact (HW.out.setCell (p := ⟨w.heap.size + 1, 0, none⟩) (by show w.heap.size ≤ w.heap.size + 1; omega) _).setCell (p := ⟨w.heap.size + 1, 1, none⟩) (by show w.heap.size ≤ w.heap.size + 1; omega) _
  subst hp0
  have HTE : Hid (T = LP.fit (LP.of 0 (LP.normC xs))) := hide (by rw [← HT.out, LP.fit_normC HP.out])
  obtain ⟨pa1, pa2, pa3, _, _⟩ := LP.pfl_zero HP.out
  have HYB := hide (LP.co_pfl HP.out)
  have hsg := LP.sgL_cases xs
  have HSG : Hid (LP.sgL xs = if n = 0 then 1 else if xs.getD (n - 1) 0 < 0 then -1 else 1) := hide (by
    unfold LP.sgL
    rw [hla]
    by_cases h : n = 0
    · rw [if_pos h, if_neg]
      rw [List.eq_nil_of_length_eq_zero (show xs.length = 0 by omega)]
      simp
    · rw [if_neg h])
  have HCN : Hid (∀ k : Int, 0 ≤ k → k < n → LP.co (LP.of 0 (LP.normC xs)) k = LP.sgL xs * LP.co (LP.of la xs) (la + k)) := hide (fun k h0 h1 => LP.co_normC la xs h0 (by rw [hla]; exact h1))
  have HSU : Hid (∀ k, LP.co (LP.of 0 (LP.normC xs)) k ≠ 0 → 0 ≤ k ∧ k < n) := hide (fun k hk => by
    have h := LP.co_of_some hk
    rw [show (LP.normC xs).length = n by unfold LP.normC; rw [List.length_map, hla]] at h
    omega)
  clear HP HT
  rw [hla] at pa1
  obtain ⟨s, hs⟩ : ∃ s, LP.sgL xs = s := ⟨_, rfl⟩
  rw [hs] at HSG HCN hsg
  clear hs
  go_upto_region 5 with fail
  have HB5 : Hid (Below w1.heap.size w1 (w1.alloc (.cells #[.int .i64 1] 3))) := hide ((Below.refl _ _).alloc (Nat.le_refl _) _)
  have KS0 := hide (Blk.new w1 3 #[.int .i64 1])
  obtain ⟨bs, hbs⟩ : ∃ b, w1.heap.size = b := ⟨_, rfl⟩
  obtain ⟨w2, hw2⟩ : ∃ x, w1.alloc (.cells #[.int .i64 1] 3) = x := ⟨_, rfl⟩
  rw [hw2] at HB5 KS0 ⊢
  replace HA := hide (HA.out.below HB5.out)
  replace HW := hide (HW.out.trans (HB5.out.mono HW.out.size))
  replace BA := hide (BA.out.below HB5.out BA.out.lt)
  have hlbs := BR.out.lt
  replace BR := hide (BR.out.below HB5.out BR.out.lt)
  rw [hbs] at KS0 hlbs ⊢
  clear hbs hw2 HB5
  have hq0 := BA.out.cell 0
  have hq1 := BA.out.cell 1
  have hf0 := BA.out.frozen 1
  simp at hq0 hq1
  go_upto_region 6 with fail
  go_cut [17, 18, 19, 20, 21, 22, 23, 24, 25, 26, 27] (fun _ _ _ _ _ _ _ _ _ _ v wx => v = .bool (decide (s = -1)) ∧ w2 = wx)
  case first =>
    by_cases hn : n = 0
    · have hs1 : s = 1 := by rw [HSG.out, if_pos hn]
      subst hn hs1
      go_wp2_with fail
      go_meet
      exact ⟨rfl, rfl⟩
    · obtain ⟨ad, hA, hcl⟩ := HA.out.il.at_ (k := n - 1) (by omega)
      subst hA
      have hs1 := HSG.out
      rw [if_neg hn] at hs1
      obtain ⟨x, hx⟩ : ∃ x, xs.getD (n - 1) 0 = x := ⟨_, rfl⟩
      rw [hx] at hcl hs1
      have hg : decide ((0 : Int) < (n : Int)) = true := decide_eq_true (by omega)
      have hp2 : IntKind.i64.wrap ((n : Int) - 1) = ((n - 1 : Nat) : Int) := by rw [IntKind.wrap_i64]; omega
      obtain ⟨k1, hk1⟩ : ∃ k, n - 1 = k := ⟨_, rfl⟩
      rw [hk1] at hcl hp2
      have hkn : k1 < n := by omega
      have hk2 : ((n : Int) - 1).toNat = k1 := by omega
      clear hx hk1 hn HSG hsg
      by_cases hx0 : x < 0
      · rw [if_pos hx0] at hs1
        subst hs1
        go_wp2_with fail
        go_meet
        exact ⟨rfl, rfl⟩
      · rw [if_neg hx0] at hs1
        subst hs1
        go_wp2_with fail
        go_meet
        exact ⟨rfl, rfl⟩
  case rest =>
    obtain ⟨rfl, rfl⟩ := hcut
    clear hq0 hq1 hf0 HSG
    go_upto_if 27 with fail
    go_cut [27] (fun _ wx => Blk wx bs 3 #[.int .i64 s] ∧ SL wx A n c xs ∧ Below bs w2 wx)
    case first =>
      rcases hsg with rfl | rfl
      · go_wp2_with fail
        go_meet
        exact ⟨KS0.out, HA.out, Below.refl _ _⟩
      · have hcs := KS0.out.cell 0
        have hfs := KS0.out.frozen 0
        simp at hcs
        have K2 := hide (KS0.out.set_ 0 (.int .i64 (-1)))
        have HA2 := hide (HA.out.setCell (b := bs) (fun h a e => by have := HIN.out h a e; omega) 0 (.int .i64 (-1)))
        have HB2 := hide ((Below.refl bs w2).setCell (p := ⟨bs, 0, none⟩) (Nat.le_refl bs) (.int .i64 (-1)))
        go_wp2_with fail
        go_meet
        exact ⟨K2.out, HA2.out, HB2.out⟩
    case rest =>
      obtain ⟨ks, ha, hb⟩ := hcut
      replace HA := hide ha
      have KS := hide ks
      replace BA := hide (BA.out.below hb (by omega))
      replace BR := hide (BR.out.below hb (by omega))
      replace HW := hide (HW.out.trans (hb.mono (by omega)))
      clear ks ha hb KS0
      have hr0 := BA.out.cell 0
      have hr1 := BA.out.cell 1
      simp at hr0 hr1
      go_wp2_with fail
      refine (coefficients_b la A n c _).mono ?_
      rintro e w2 ⟨ca, rfl, hcb, hkb, hb⟩
      replace HA := hide (HA.out.below hb)
      replace HW := hide (HW.out.trans (hb.mono HW.out.size))
      replace BA := hide (BA.out.below hb BA.out.lt)
      replace BR := hide (BR.out.below hb BR.out.lt)
      replace KS := hide (KS.out.below hb KS.out.lt)
      have KA := hide hkb
      clear hb hr0 hr1 hkb
      go_upto_region 9 with fail
      have HB7 : Hid (Below w2.heap.size w2 (w2.alloc (.cells #[.func (.func 54) #[] #[.pointer (some ⟨ca, 0, none⟩)]] 54))) := hide ((Below.refl _ _).alloc (Nat.le_refl _) _)
      have K7 := hide (Blk.new w2 54 #[.func (.func 54) #[] #[.pointer (some ⟨ca, 0, none⟩)]])
      obtain ⟨b7, hb7⟩ : ∃ b, w2.heap.size = b := ⟨_, rfl⟩
      obtain ⟨wq, hwq⟩ : ∃ x, w2.alloc (.cells #[.func (.func 54) #[] #[.pointer (some ⟨ca, 0, none⟩)]] 54) = x := ⟨_, rfl⟩
      rw [hwq] at HB7 K7 ⊢
      replace HA := hide (HA.out.below HB7.out)
      replace HW := hide (HW.out.trans (HB7.out.mono HW.out.size))
      replace BA := hide (BA.out.below HB7.out BA.out.lt)
      replace BR := hide (BR.out.below HB7.out BR.out.lt)
      replace KS := hide (KS.out.below HB7.out KS.out.lt)
      replace KA := hide (KA.out.below HB7.out KA.out.lt)
      rw [hb7] at K7 ⊢
      clear hb7 hwq HB7 hcb
      have HCO := hide (collect0_any (fid := 41) (caps := [.pointer (some ⟨bs, 0, none⟩), .pointer (some ⟨b7, 0, none⟩), .pointer (some ⟨w.heap.size, 0, none⟩)]) n (LP.of 0 (LP.normC xs)) wq ⟨eNormX, fun w' hw' e h1 h2 => by
        rw [HCN.out e h1 h2]
        exact normX_any la A n c xs bs b7 w.heap.size ca s w' (HA.out.below hw') (by omega) (by omega) hsg HYB.out (KS.out.below hw' KS.out.lt) (K7.out.below hw' K7.out.lt) (BA.out.below hw' BA.out.lt) (KA.out.below hw' KA.out.lt) e (by omega)⟩ HSU.out (by omega))
      rw [← HTE.out] at HCO
      have ec := eCollect
      have hmf : ∀ (fn : Fn) (first cap : Array Value) (w : World), (Instr.makeFunc fn first cap).run Try.prog w = .ok (.func fn first cap) w := fun _ _ _ _ => rfl
      have hr0 := BA.out.cell 0
      have hr1 := BA.out.cell 1
      simp at hr0 hr1
      clear HTE HSU HCN HYB hsg
      go_wp2_with fail
      refine HCO.out.mono ?_
      rintro e w5 ⟨R, rn, rc, rfl, hs, hnw, hb⟩
      have HW1 := hide (HW.out.trans (hb.mono HW.out.size))
      have BR1 := hide (BR.out.below hb BR.out.lt)
      have HFAR := hide (show 0 < rn → ∀ ad, R = some ad → w.heap.size + 1 < ad.block from fun h ad e => by have := hnw h ad e; have := BR.out.lt; omega)
      have HS := hide hs
      clear hb hnw hs hr0 hr1 HCO HW BR HA BA KS KA K7
      have hf0 := BR1.out.frozen 0
      have hf1 := BR1.out.frozen 1
      have hc0 := BR1.out.cell 0
      have hc1 := BR1.out.cell 1
      simp at hc0 hc1
      have hlt := BR1.out.lt
      obtain ⟨ze, zl, zc⟩ := T
      go_wp2_with fail
      refine bodyPost_ret (results_pe rfl _ rfl rfl ((BR1.out.set_ 0 (.int .i64 zl)).set_ 1 (.slice R rn rc))) rfl ?_
      refine ⟨R, rn, rc, rfl, ?_, fun h ad e => by have := HFAR.out h ad e; omega, ?_⟩
      · exact (HS.out.setCell (fun h ad e => by have := HFAR.out h ad e; omega) 0 _).setCell (fun h ad e => by have := HFAR.out h ad e; omega) 1 _
      · exact (HW1.out.setCell (p := ⟨w.heap.size + 1, 0, none⟩) (by show w.heap.size ≤ w.heap.size + 1; omega) _).setCell (p := ⟨w.heap.size + 1, 1, none⟩) (by show w.heap.size ≤ w.heap.size + 1; omega) _
end Go.Proofs.Ytbajelbfgekilaa
