/- Several texts in one. -/
import Derived.Test.YtndgffiihbdppaaPart16
import Derived.RangeFuncNested
import Derived.RangeFuncBound
import Derived.RangeFuncCalls
import Derived.RangeFuncLeaves
import Derived.Shelf.Abstract
import Derived.Shelf.RegionOpen
import Derived.WalkKit
import Derived.OwnWalkIn
import Derived.TacticsInMore
import Derived.LoopNIn
import Derived.LoopIn
import Derived.Test.YtndgffiihbdppaaBase1
import Derived.Test.YtndgffiihbdppaaPart1
import Derived.Test.YtndgffiihbdppaaPart13
import Derived.Test.YtndgffiihbdppaaBase2
/- Package laurent: Normalize. -/
namespace Go.Proofs.Ytndgffiihbdppaa
set_option linter.unusedVariables false
set_option linter.unusedSimpArgs false
open Go.RowKit

theorem LP.sgL_natAbs (A : List Int) : (sgL A).natAbs = 1 := by rcases sgL_cases A with h | h <;> rw [h] <;> rfl
theorem LP.co_normC (la : Int) (A : List Int) {k : Int} (h0 : 0 ≤ k) (h1 : k < A.length) : co (of 0 (normC A)) k = sgL A * co (of la A) (la + k) := by
  rw [co_of, co_of]
  have hl : (normC A).length = A.length := by unfold normC; rw [List.length_map]
  rw [if_pos (by rw [hl]; omega), if_pos (by omega)]
  unfold normC
  rw [getD_smul, show (k - 0).toNat = (la + k - la).toNat by omega]
theorem LP.normC_cano {la : Int} {A : List Int} (h : pfl la A = 0) : Cano 0 (normC A) ∧ pfl 0 (normC A) = 0 := by
  obtain ⟨h1, _, _, hc, h5⟩ := pfl_zero h
  have hl : (normC A).length = A.length := by unfold normC; rw [List.length_map]
  have hs := sgL_cases A
  have hC : Cano 0 (normC A) := by
    rcases hc with ⟨h, _⟩ | ⟨h, hf, hla⟩
    · subst h; exact .inl ⟨rfl, rfl⟩
    · refine .inr ⟨fun e => h (by have := congrArg List.length e; rw [hl] at this; exact List.eq_nil_of_length_eq_zero this), ?_, ?_⟩
      · unfold normC; rw [getD_smul]; rcases hs with e | e <;> rw [e] <;> omega
      · rw [hl]; unfold normC; rw [getD_smul]; rcases hs with e | e <;> rw [e] <;> omega
  refine ⟨hC, pfl_ok (by rw [hl]; exact h1) (by omega) (by omega) hC fun c hm => ?_⟩
  unfold normC at hm
  obtain ⟨x, hx, rfl⟩ := List.mem_map.1 hm
  rw [Int.natAbs_mul, sgL_natAbs, Nat.one_mul]
  exact h5 x hx
theorem LP.fit_normC {la : Int} {A : List Int} (h : pfl la A = 0) : fit (of 0 (normC A)) = normR la A := by
  obtain ⟨hc, hp⟩ := normC_cano h
  have e := canon_of hc
  unfold normR one1 fit
  rw [if_pos h, e, if_pos hp]

theorem eNormX : ∀ args w, (callFunc 63 args).run Try.prog w = .ok (.enter 63 args) w := enters (fn := Try.f63) (by kernel_rfl) (by kernel_rfl) (by kernel_rfl)
set_option maxRecDepth 100000 in
set_option maxHeartbeats 4000000 in
theorem normX_any (la : Int) (A : Option Addr) (n c : Nat) (xs : List Int) (bs b7 ba ca : Nat) (s : Int) (w : World) (ha : SL w A n c xs) (h1 : la.natAbs ≤ 1000000) (h2 : n ≤ 1000000) (hs : s = 1 ∨ s = -1) (hy : ∀ k, (LP.co (LP.of la xs) k).natAbs ≤ 100000000)
    (ks : Blk w bs 3 #[.int .i64 s]) (k7 : Blk w b7 58 #[.func (.func 84) #[] #[.pointer (some ⟨ca, 0, none⟩)]]) (kb : Blk w ba 36 #[.int .i64 la, .slice A n c]) (ka : Blk w ca 36 #[.int .i64 la, .slice A n c]) (e : Int) (he : e.natAbs ≤ 10000000) :
    Calls Try.prog 63 #[.int .i64 e, .pointer (some ⟨bs, 0, none⟩), .pointer (some ⟨b7, 0, none⟩), .pointer (some ⟨ba, 0, none⟩)] w fun r w' => r = .returned (.int .i64 (s * LP.co (LP.of la xs) (la + e))) ∧ Below w.heap.size w w' := by
  have HA := hide ha
  have KS := hide ks
  have K7 := hide k7
  have KB := hide kb
  have KA := hide ka
  have hw : IntKind.i64.wrap (la + e) = la + e := by rw [IntKind.wrap_i64]; omega
  have hyv := hy (la + e)
  have hw2 : IntKind.i64.wrap (s * LP.co (LP.of la xs) (la + e)) = s * LP.co (LP.of la xs) (la + e) := by
    rw [IntKind.wrap_i64]
    rcases hs with h | h <;> rw [h] <;> omega
  clear ha ks k7 kb ka hy hyv
  go_enter Try.func63, Try.ntmps63
  go_upto_region 1 with fail
  refine wp_region_noPanic ?_
  refine wp_region_held_drew (S := fun x => Below w.heap.size w x) (by kernel_rfl) (Below.refl _ _).drew (fun hS0 => ?_)
  refine wpAnyH_tk 0 (v := .int .i64 s) rfl (by kernel_rfl) (by kernel_rfl) (by kernel_rfl) (yi rfl fun w' hw' => gives_load1 rfl (by kernel_rfl) rfl (by have h := (KS.out.below hw' KS.out.lt).cell 0; simpa using h)) hS0 ?_
  go_frame
  refine wpAnyH_tk 1 (v := .func (.func 84) #[] #[.pointer (some ⟨ca, 0, none⟩)]) rfl (by kernel_rfl) (by kernel_rfl) (by kernel_rfl) (yi rfl fun w' hw' => gives_load1 rfl (by kernel_rfl) rfl (by have h := (K7.out.below hw' K7.out.lt).cell 0; simpa using h)) hS0 ?_
  go_frame
  refine wpAnyH_tk 2 (v := .pointer (some ⟨ba, 0, none⟩)) rfl (by kernel_rfl) (by kernel_rfl) (by kernel_rfl) (yi rfl fun w' hw' => gives_fld rfl Try.underlying36 rfl rfl rfl (fun w => rfl)) hS0 ?_
  go_frame
  refine wpAnyH_tk 3 (v := .int .i64 la) rfl (by kernel_rfl) (by kernel_rfl) (by kernel_rfl) (yi rfl fun w' hw' => gives_load1 rfl (by kernel_rfl) rfl (by have h := (KB.out.below hw' KB.out.lt).cell 0; simpa using h)) hS0 ?_
  go_frame
  refine wpAnyH_tk 4 (v := .int .i64 e) rfl (by kernel_rfl) (by kernel_rfl) (by kernel_rfl) (yi rfl fun w' hw' => gives_move (.inl rfl) rfl) hS0 ?_
  go_frame
  refine wpAnyH_tk 5 (v := .int .i64 (la + e)) rfl (by kernel_rfl) (by kernel_rfl) (by kernel_rfl) (yi rfl fun w' hw' => gives_add rfl rfl rfl hw) hS0 ?_
  go_frame
  refine wpAnyH_1 6 rfl (by kernel_rfl) ?_
  refine wp_callV [.int .i64 (la + e)] rfl rfl eCoeff (cap := [.pointer (some ⟨ca, 0, none⟩)]) rfl ((coeff_any la A n c xs ca (la + e) _ (HA.out.below hS0) (KA.out.below hS0 KA.out.lt) h1 h2 (by omega)).mono ?_)
  rintro r v1 ⟨rfl, hb⟩
  have hS1 : Below w.heap.size w v1 := hS0.trans (hb.mono hS0.size)
  refine ⟨_, rfl, hS1, ?_⟩
  clear hb
  go_frame
  refine wpAnyH_tk 7 (v := .int .i64 (s * LP.co (LP.of la xs) (la + e))) rfl (by kernel_rfl) (by kernel_rfl) (by kernel_rfl) (yi rfl fun w' hw' => gives_mul rfl rfl rfl hw2) hS1 ?_
  go_frame
  refine wpAnyH_tk 8 (v := .int .i64 (s * LP.co (LP.of la xs) (la + e))) rfl (by kernel_rfl) (by kernel_rfl) (by kernel_rfl) (yi rfl fun w' hw' => gives_move (.inr rfl) rfl) hS1 ?_
  go_frame
  refine wpAnyH_done (by kernel_rfl) (noPanic_mk ?_) _
  have HS := hide hS1
  clear hS0 hS1 hw hw2
  obtain ⟨z, hz⟩ : ∃ z, s * LP.co (LP.of la xs) (la + e) = z := ⟨_, rfl⟩
  have HZ := hide hz
  rw [hz]
  clear hz
  go_wp2_with fail
  go_ret
  rw [HZ.out]
  exact ⟨rfl, HS.out⟩

theorem collect0_any {fid : FuncId} {caps : List Value} (n : Nat) (z : LP) (w : World) (H : AnsI Try.prog fid caps w.heap.size w 0 n (LP.co z)) (hz : ∀ k, LP.co z k ≠ 0 → 0 ≤ k ∧ k < n) (hn : n ≤ 100000) :
    Calls Try.prog 60 #[.int .i64 0, .int .i64 n, .func (.func fid) #[] caps.toArray] w (GivesPE w (LP.fit z)) := by
  have h := collect_any (fid := fid) (caps := caps) 0 n z w (by rw [Int.zero_add]; exact H) (by rw [Int.zero_add]; exact hz) (by decide) hn
  rwa [Int.zero_add] at h

set_option maxRecDepth 100000 in
set_option maxHeartbeats 8000000 in
theorem lnorm_any (la : Int) (A : Option Addr) (n c : Nat) (xs : List Int) (w : World) (ha : SL w A n c xs) :
    Calls Try.prog 22 #[PV la A n c] w (GivesPE w (LP.normR la xs)) := by
  have hla := ha.il.len
  have HIN := hide ha.inside
  have hbw : Below w.heap.size w ((w.alloc (.cells #[.int .i64 la, .slice A n c] 36)).alloc (.cells #[.int .i64 0, .slice none 0 0] 36)) := ((Below.refl _ _).alloc (Nat.le_refl _) _).alloc (by simp) _
  have hA := (Blk.new w 36 #[.int .i64 la, .slice A n c]).alloc (.cells #[.int .i64 0, .slice none 0 0] 36)
  have hR := Blk.new (w.alloc (.cells #[.int .i64 la, .slice A n c] 36)) 36 #[.int .i64 0, .slice none 0 0]
  simp only [World.size_alloc] at hR
  have HA := hide (ha.below hbw)
  have HW := hide hbw
  clear ha hbw
  have BA := hide hA
  have BR := hide hR
  clear hA hR
  obtain ⟨T, hT⟩ : ∃ T, LP.normR la xs = T := ⟨_, rfl⟩
  have HT := hide hT
  rw [hT]
  clear hT
  go_enter Try.func22, Try.ntmps22
  go_upto_region 1 with fail
  obtain ⟨w0, hw0⟩ : ∃ x, ((w.alloc (.cells #[.int .i64 la, .slice A n c] 36)).alloc (.cells #[.int .i64 0, .slice none 0 0] 36)) = x := ⟨_, rfl⟩
  rw [hw0] at HA HW BA BR ⊢
  clear hw0
  have hq0 := BA.out.cell 0
  have hq1 := BA.out.cell 1
  simp at hq0 hq1
  go_wp2_with fail
  refine (lcheck_any la A n c xs _ HA.out).mono ?_
  rintro e w1 ⟨rfl, hb⟩
  replace HA := hide (HA.out.below hb)
  replace HW := hide (HW.out.trans (hb.mono HW.out.size))
  replace BA := hide (BA.out.below hb BA.out.lt)
  replace BR := hide (BR.out.below hb BR.out.lt)
  clear hb hq0 hq1
  obtain ⟨p, hp⟩ : ∃ p, LP.pfl la xs = p := ⟨_, rfl⟩
  rw [hp]
  have HP := hide hp
  clear hp
  by_cases hp0 : p = 0
  case neg =>
    have HTE : Hid (T = (p, 0, [])) := hide (by
      rw [← HT.out, ← HP.out]
      unfold LP.normR LP.one1
      rw [if_neg (by rw [HP.out]; exact hp0)])
    have hne : (p != 0) = true := by simpa using hp0
    have hf0 := BR.out.frozen 0
    have hf1 := BR.out.frozen 1
    have hr0 := BR.out.cell 0
    have hr1 := BR.out.cell 1
    simp at hr0 hr1
    have hlt := BR.out.lt
    clear hp0
    go_wp2_with fail
    refine bodyPost_ret (results_pe rfl _ rfl rfl ((BR.out.set_ 0 (.int .i64 0)).set_ 1 (.slice none 0 0))) rfl ?_
    rw [HTE.out]
    refine ⟨none, 0, 0, rfl, SL.nil_ _, fun h => absurd h (by omega), ?_⟩
    exact (HW.out.setCell (p := ⟨w.heap.size + 1, 0, none⟩) (by show w.heap.size ≤ w.heap.size + 1; omega) _).setCell (p := ⟨w.heap.size + 1, 1, none⟩) (by show w.heap.size ≤ w.heap.size + 1; omega) _
  subst hp0
  have HTE : Hid (T = LP.fit (LP.of 0 (LP.normC xs))) := hide (by rw [← HT.out, LP.fit_normC HP.out])
  obtain ⟨pa1, pa2, pa3, _, _⟩ := LP.pfl_zero HP.out
  have HYB := hide (LP.co_pfl HP.out)
  have hsg := LP.sgL_cases xs
  have HSG : Hid (LP.sgL xs = if n = 0 then 1 else if xs.getD (n - 1) 0 < 0 then -1 else 1) := hide (by
    unfold LP.sgL
    rw [hla]
    by_cases h : n = 0
    · rw [if_pos h, if_neg]
      rw [List.eq_nil_of_length_eq_zero (show xs.length = 0 by omega)]
      simp
    · rw [if_neg h])
  have HCN : Hid (∀ k : Int, 0 ≤ k → k < n → LP.co (LP.of 0 (LP.normC xs)) k = LP.sgL xs * LP.co (LP.of la xs) (la + k)) := hide (fun k h0 h1 => LP.co_normC la xs h0 (by rw [hla]; exact h1))
  have HSU : Hid (∀ k, LP.co (LP.of 0 (LP.normC xs)) k ≠ 0 → 0 ≤ k ∧ k < n) := hide (fun k hk => by
    have h := LP.co_of_some hk
    rw [show (LP.normC xs).length = n by unfold LP.normC; rw [List.length_map, hla]] at h
    omega)
  clear HP HT
  rw [hla] at pa1
  obtain ⟨s, hs⟩ : ∃ s, LP.sgL xs = s := ⟨_, rfl⟩
  rw [hs] at HSG HCN hsg
  clear hs
  go_upto_region 5 with fail
  have HB5 : Hid (Below w1.heap.size w1 (w1.alloc (.cells #[.int .i64 1] 3))) := hide ((Below.refl _ _).alloc (Nat.le_refl _) _)
  have KS0 := hide (Blk.new w1 3 #[.int .i64 1])
  obtain ⟨bs, hbs⟩ : ∃ b, w1.heap.size = b := ⟨_, rfl⟩
  obtain ⟨w2, hw2⟩ : ∃ x, w1.alloc (.cells #[.int .i64 1] 3) = x := ⟨_, rfl⟩
  rw [hw2] at HB5 KS0 ⊢
  replace HA := hide (HA.out.below HB5.out)
  replace HW := hide (HW.out.trans (HB5.out.mono HW.out.size))
  replace BA := hide (BA.out.below HB5.out BA.out.lt)
  have hlbs := BR.out.lt
  replace BR := hide (BR.out.below HB5.out BR.out.lt)
  rw [hbs] at KS0 hlbs ⊢
  clear hbs hw2 HB5
  have hq0 := BA.out.cell 0
  have hq1 := BA.out.cell 1
  have hf0 := BA.out.frozen 1
  simp at hq0 hq1
  go_upto_region 6 with fail
  go_cut [17, 18, 19, 20, 21, 22, 23, 24, 25, 26, 27] (fun _ _ _ _ _ _ _ _ _ _ v wx => v = .bool (decide (s = -1)) ∧ w2 = wx)
  case first =>
    by_cases hn : n = 0
    · have hs1 : s = 1 := by rw [HSG.out, if_pos hn]
      subst hn hs1
      go_wp2_with fail
      go_meet
      exact ⟨rfl, rfl⟩
    · obtain ⟨ad, hA, hcl⟩ := HA.out.il.at_ (k := n - 1) (by omega)
      subst hA
      have hs1 := HSG.out
      rw [if_neg hn] at hs1
      obtain ⟨x, hx⟩ : ∃ x, xs.getD (n - 1) 0 = x := ⟨_, rfl⟩
      rw [hx] at hcl hs1
      have hg : decide ((0 : Int) < (n : Int)) = true := decide_eq_true (by omega)
      have hp2 : IntKind.i64.wrap ((n : Int) - 1) = ((n - 1 : Nat) : Int) := by rw [IntKind.wrap_i64]; omega
      obtain ⟨k1, hk1⟩ : ∃ k, n - 1 = k := ⟨_, rfl⟩
      rw [hk1] at hcl hp2
      have hkn : k1 < n := by omega
      have hk2 : ((n : Int) - 1).toNat = k1 := by omega
      clear hx hk1 hn HSG hsg
      by_cases hx0 : x < 0
      · rw [if_pos hx0] at hs1
        subst hs1
        go_wp2_with fail
        go_meet
        exact ⟨rfl, rfl⟩
      · rw [if_neg hx0] at hs1
        subst hs1
        go_wp2_with fail
        go_meet
        exact ⟨rfl, rfl⟩
  case rest =>
    obtain ⟨rfl, rfl⟩ := hcut
    clear hq0 hq1 hf0 HSG
    go_upto_if 27 with fail
    go_cut [27] (fun _ wx => Blk wx bs 3 #[.int .i64 s] ∧ SL wx A n c xs ∧ Below bs w2 wx)
    case first =>
      rcases hsg with rfl | rfl
      · go_wp2_with fail
        go_meet
        exact ⟨KS0.out, HA.out, Below.refl _ _⟩
      · have hcs := KS0.out.cell 0
        have hfs := KS0.out.frozen 0
        simp at hcs
        have K2 := hide (KS0.out.set_ 0 (.int .i64 (-1)))
        have HA2 := hide (HA.out.setCell (b := bs) (fun h a e => by have := HIN.out h a e; omega) 0 (.int .i64 (-1)))
        have HB2 := hide ((Below.refl bs w2).setCell (p := ⟨bs, 0, none⟩) (Nat.le_refl bs) (.int .i64 (-1)))
        go_wp2_with fail
        go_meet
        exact ⟨K2.out, HA2.out, HB2.out⟩
    case rest =>
      obtain ⟨ks, ha, hb⟩ := hcut
      replace HA := hide ha
      have KS := hide ks
      replace BA := hide (BA.out.below hb (by omega))
      replace BR := hide (BR.out.below hb (by omega))
      replace HW := hide (HW.out.trans (hb.mono (by omega)))
      clear ks ha hb KS0
      have hr0 := BA.out.cell 0
      have hr1 := BA.out.cell 1
      simp at hr0 hr1
      go_wp2_with fail
      refine (coefficients_b la A n c _).mono ?_
      rintro e w2 ⟨ca, rfl, hcb, hkb, hb⟩
      replace HA := hide (HA.out.below hb)
      replace HW := hide (HW.out.trans (hb.mono HW.out.size))
      replace BA := hide (BA.out.below hb BA.out.lt)
      replace BR := hide (BR.out.below hb BR.out.lt)
      replace KS := hide (KS.out.below hb KS.out.lt)
      have KA := hide hkb
      clear hb hr0 hr1 hkb
      go_upto_region 9 with fail
      have HB7 : Hid (Below w2.heap.size w2 (w2.alloc (.cells #[.func (.func 84) #[] #[.pointer (some ⟨ca, 0, none⟩)]] 58))) := hide ((Below.refl _ _).alloc (Nat.le_refl _) _)
      have K7 := hide (Blk.new w2 58 #[.func (.func 84) #[] #[.pointer (some ⟨ca, 0, none⟩)]])
      obtain ⟨b7, hb7⟩ : ∃ b, w2.heap.size = b := ⟨_, rfl⟩
      obtain ⟨wq, hwq⟩ : ∃ x, w2.alloc (.cells #[.func (.func 84) #[] #[.pointer (some ⟨ca, 0, none⟩)]] 58) = x := ⟨_, rfl⟩
      rw [hwq] at HB7 K7 ⊢
      replace HA := hide (HA.out.below HB7.out)
      replace HW := hide (HW.out.trans (HB7.out.mono HW.out.size))
      replace BA := hide (BA.out.below HB7.out BA.out.lt)
      replace BR := hide (BR.out.below HB7.out BR.out.lt)
      replace KS := hide (KS.out.below HB7.out KS.out.lt)
      replace KA := hide (KA.out.below HB7.out KA.out.lt)
      rw [hb7] at K7 ⊢
      clear hb7 hwq HB7 hcb
      have HCO := hide (collect0_any (fid := 63) (caps := [.pointer (some ⟨bs, 0, none⟩), .pointer (some ⟨b7, 0, none⟩), .pointer (some ⟨w.heap.size, 0, none⟩)]) n (LP.of 0 (LP.normC xs)) wq ⟨eNormX, fun w' hw' e h1 h2 => by
        rw [HCN.out e h1 h2]
        exact normX_any la A n c xs bs b7 w.heap.size ca s w' (HA.out.below hw') (by omega) (by omega) hsg HYB.out (KS.out.below hw' KS.out.lt) (K7.out.below hw' K7.out.lt) (BA.out.below hw' BA.out.lt) (KA.out.below hw' KA.out.lt) e (by omega)⟩ HSU.out (by omega))
      rw [← HTE.out] at HCO
      have ec := eCollect
      have hmf : ∀ (fn : Fn) (first cap : Array Value) (w : World), (Instr.makeFunc fn first cap).run Try.prog w = .ok (.func fn first cap) w := fun _ _ _ _ => rfl
      have hr0 := BA.out.cell 0
      have hr1 := BA.out.cell 1
      simp at hr0 hr1
      clear HTE HSU HCN HYB hsg
      go_wp2_with fail
      refine HCO.out.mono ?_
      rintro e w5 ⟨R, rn, rc, rfl, hs, hnw, hb⟩
      have HW1 := hide (HW.out.trans (hb.mono HW.out.size))
      have BR1 := hide (BR.out.below hb BR.out.lt)
      have HFAR := hide (show 0 < rn → ∀ ad, R = some ad → w.heap.size + 1 < ad.block from fun h ad e => by have := hnw h ad e; have := BR.out.lt; omega)
      have HS := hide hs
      clear hb hnw hs hr0 hr1 HCO HW BR HA BA KS KA K7
      have hf0 := BR1.out.frozen 0
      have hf1 := BR1.out.frozen 1
      have hc0 := BR1.out.cell 0
      have hc1 := BR1.out.cell 1
      simp at hc0 hc1
      have hlt := BR1.out.lt
      obtain ⟨ze, zl, zc⟩ := T
      go_wp2_with fail
      refine bodyPost_ret (results_pe rfl _ rfl rfl ((BR1.out.set_ 0 (.int .i64 zl)).set_ 1 (.slice R rn rc))) rfl ?_
      refine ⟨R, rn, rc, rfl, ?_, fun h ad e => by have := HFAR.out h ad e; omega, ?_⟩
      · exact (HS.out.setCell (fun h ad e => by have := HFAR.out h ad e; omega) 0 _).setCell (fun h ad e => by have := HFAR.out h ad e; omega) 1 _
      · exact (HW1.out.setCell (p := ⟨w.heap.size + 1, 0, none⟩) (by show w.heap.size ≤ w.heap.size + 1; omega) _).setCell (p := ⟨w.heap.size + 1, 1, none⟩) (by show w.heap.size ≤ w.heap.size + 1; omega) _
end Go.Proofs.Ytndgffiihbdppaa
/- Ranges over functions: a region that draws its order in a round; slices.Backward over integers. -/
namespace Go.Proofs.Ytndgffiihbdppaa
set_option linter.unusedVariables false
set_option linter.unusedSimpArgs false
open Go.RowKit Go.Shelf
attribute [local go_sem] Oper.semAt_some

/-! ### a region that draws its order, in a round -/
section
variable {P : Program} {l n : Nat} {ops : Array Oper} {Q : Exit → Act → World → Prop} {md : Region.Mode}
end

/-! ### slices.Backward -/
/-- What the iterator reads: the slice in its box, an integer in each cell. -/
def BackR (V : Nat → Int → Prop) (Bs : Nat) (A : Option Addr) (m c : Nat) (W : World) : Prop :=
  W.cell? ⟨Bs, 0, none⟩ = some (.slice A m c) ∧ ∀ j, j < m → ∃ ad v, A = some ad ∧ W.cell? (ad.add j) = some (.int .i64 v) ∧ V j v
/-- An index and a number. -/
abbrev BackX (m : Nat) := { p : Nat × Int // p.1 < m }
/-- These have come: the last ones, from the end. -/
def BackS {m : Nat} (V : Nat → Int → Prop) (ys : List (BackX m)) : Prop := ys.length ≤ m ∧ ∀ k y, ys[k]? = some y → y.1.1 = m - 1 - k ∧ V (m - 1 - k) y.1.2
theorem BackS.snoc {m : Nat} {V : Nat → Int → Prop} {ys : List (BackX m)} (h : BackS V ys) (hl : ys.length < m) {y : BackX m} (h1 : y.1.1 = m - 1 - ys.length) (h2 : V (m - 1 - ys.length) y.1.2) : BackS V (ys ++ [y]) :=
  ⟨by simp; omega, fun k z hz => by
    by_cases hk : k < ys.length
    · rw [List.getElem?_append_left hk] at hz; exact h.2 k z hz
    · rw [List.getElem?_append_right (by omega)] at hz
      have hk2 : k = ys.length := by
        by_cases e : k - ys.length = 0
        · omega
        · rw [List.getElem?_eq_none (by simp; omega)] at hz; cases hz
      subst hk2
      simp at hz
      subst hz
      exact ⟨h1, h2⟩⟩

theorem eBackX : ∀ args w, (callFunc 78 args).run Try.prog w = .ok (.enter 78 args) w := enters (fn := Try.f78) (by kernel_rfl) (by kernel_rfl) (by kernel_rfl)

set_option maxRecDepth 100000 in
set_option maxHeartbeats 2000000 in
theorem backF_any (A : Option Addr) (m c : Nat) (w : World) :
    Calls Try.prog 54 #[.slice A m c] w fun e w' => e = .returned (.func (.func 78) #[] #[.pointer (some ⟨w.heap.size, 0, none⟩)]) ∧ w' = w.alloc (.cells #[.slice A m c] 22) := by
  have hmf : ∀ (fn : Fn) (first cap : Array Value) (w : World), (Instr.makeFunc fn first cap).run Try.prog w = .ok (.func fn first cap) w := fun _ _ _ _ => rfl
  go_enter Try.func54, Try.ntmps54
  go_wp2_with fail
  go_ret
  exact ⟨rfl, rfl⟩

set_option maxRecDepth 100000 in
set_option maxHeartbeats 2000000 in
/-- The iterator, for every body that keeps what is read. -/
theorem backX_in (F : Fence) (n : Nat) (hF : F.fn 78) (hro : F.round = none) (hn : 1 ≤ n) (l Bs : Nat) (V : Nat → Int → Prop) (A : Option Addr) (m c : Nat) (hm : m ≤ 17592186044416) (J Jx : List (BackX m) → World → Prop)
    (hY : ∀ pre x W, J pre W → pre.length < m → YieldAt F (n - 1) Try.prog l #[.int .i64 (x.1.1 : Int), .int .i64 x.1.2] W fun e W' =>
      (e = .returned (.bool true) ∧ J (pre ++ [x]) W' ∧ (BackR V Bs A m c W → BackR V Bs A m c W')) ∨ (e = .returned (.bool false) ∧ Jx (pre ++ [x]) W'))
    (W : World) (hR : BackR V Bs A m c W) (h0 : J [] W) :
    CallsIn F n Try.prog 78 #[.func (.yield l) #[] #[], .pointer (some ⟨Bs, 0, none⟩)] W fun e W' => (∃ v, e = .returned v) ∧
      ((∃ ys, (ys.length = m ∧ BackS V ys) ∧ J ys W') ∨ (∃ pre, BackS V pre ∧ Jx pre W')) := by
  have hbs := hR.1
  have HR := hide hR
  have hw1 : IntKind.i64.wrap ((m : Int) - 1) = (m : Int) - 1 := by rw [IntKind.wrap_i64]; omega
  clear hR
  refine callsIn_of_wp Try.func78 rfl hF ?_ hro
  simp only [Try.ntmps78, List.size_toArray, List.length_cons, List.length_nil, Nat.reduceAdd, Nat.reduceSub, Array.replicate_succ, Array.replicate_zero, List.push_toArray, List.append_toArray, List.nil_append, List.cons_append]
  gi_wp2
  gi_loopw [3] (fun iv wr => ∃ (k : Nat) (ys : List (BackX m)), k ≤ m ∧ iv = .int .i64 ((m : Int) - 1 - k) ∧ ys.length = k ∧ BackS V ys ∧ J ys wr ∧ BackR V Bs A m c wr) (fun iv _ => (intOf iv + 1).toNat)
  case atStart => exact ⟨0, [], Nat.zero_le _, by simp, rfl, ⟨Nat.zero_le _, fun k y h => by simp at h⟩, h0, HR.out⟩
  case round =>
    obtain ⟨k, ys, hk, rfl, hys, hS, hJ, hR⟩ := hrel
    have hb2 := hR.1
    have HRR := hide hR
    have HS := hide hS
    have HJ := hide hJ
    have HY := hide hY
    clear hbs hR hS hJ
    by_cases hlt : k < m
    · obtain ⟨i, hi⟩ : ∃ i : Nat, m - 1 - k = i := ⟨_, rfl⟩
      have hi2 : (m : Int) - 1 - k = i := by omega
      obtain ⟨ad, v, hA, hcell, hV⟩ := HRR.out.2 i (by omega)
      subst hA
      rw [hi2]
      have him : i < m := by omega
      have hcond : decide ((0 : Int) ≤ i) = true := by simp
      obtain ⟨fn, tmps, assign, body, hy, hRR⟩ := HY.out ys ⟨(i, v), him⟩ wr HJ.out (by omega)
      dsimp only at hy
      have HV := hide hV
      have HI := hide hi
      have HI2 := hide hi2
      clear hV hi hi2
      gi_wp2
      refine hRR.mono ?_
      rintro e W3 (⟨rfl, hJ3, hk3⟩ | ⟨rfl, hJx3⟩)
      · have HS3 := hide (HS.out.snoc (y := ⟨(i, v), him⟩) (by omega) (by rw [hys, HI.out]) (by rw [hys, HI.out]; exact HV.out))
        have HR3 := hide (hk3 HRR.out)
        have HJ3 := hide hJ3
        clear hk3 hJ3 hb2 hcell
        gi_wp2
        go_roundw
        case rel => exact ⟨k + 1, _, by omega, by have := HI2.out; simp; omega, by simp; omega, HS3.out, HJ3.out, HR3.out⟩
        case measure => simp [intOf]
      · have HS3 := hide (HS.out.snoc (y := ⟨(i, v), him⟩) (by omega) (by rw [hys, HI.out]) (by rw [hys, HI.out]; exact HV.out))
        gi_wp2
        refine bodyPost_ret (results_none rfl _ _ _) rfl ?_
        exact ⟨⟨_, rfl⟩, .inr ⟨_, HS3.out, hJx3⟩⟩
    · obtain rfl : k = m := by omega
      have hcond : decide ((0 : Int) ≤ (k : Int) - 1 - k) = false := by simp; omega
      gi_wp2
      go_end0
      exact ⟨⟨_, rfl⟩, .inl ⟨ys, ⟨hys, HS.out⟩, HJ.out⟩⟩

/-- slices.Backward hands over what it reads, from the end; the body keeps what is read. -/
theorem back_stops (F : Fence) (n : Nat) (hF : F.fn 78) (hro : F.round = none) (hn : 1 ≤ n) (Bs : Nat) (V : Nat → Int → Prop) (A : Option Addr) (m c : Nat) (hm : m ≤ 17592186044416) (w : World) (hR : ∀ W, Below w.heap.size w W → BackR V Bs A m c W) :
    SeqStopsK F n Try.prog 78 #[.pointer (some ⟨Bs, 0, none⟩)] (fun x : BackX m => #[Value.int .i64 (x.1.1 : Int), Value.int .i64 x.1.2]) (fun W W' => BackR V Bs A m c W → BackR V Bs A m c W') (fun ys => ys.length = m ∧ BackS V ys) (BackS V) m w := fun l J Jx W hW _ _ hY h0 =>
  backX_in F n hF hro hn l Bs V A m c hm J Jx hY W (hR W hW) h0
theorem backK_b {V : Nat → Int → Prop} {Bs : Nat} {A : Option Addr} {m c : Nat} (W : World) (l : Nat) (o o' : Obj) (h : W.heap[l]? = some o) (ho : o.isCells = false) : BackR V Bs A m c W → BackR V Bs A m c (W.putObj l o') := fun hR =>
  have hk : ∀ {p : Addr} {v : Value}, W.cell? p = some v → (W.putObj l o').cell? p = some v := fun hc => cell_kept hc (grownBy_putObj' W l o') (fun r e => by cases e; exact ⟨o, h, ho⟩)
  ⟨hk hR.1, fun j hj => by
    obtain ⟨ad, v, h1, h2, h3⟩ := hR.2 j hj
    exact ⟨ad, v, h1, hk h2, h3⟩⟩
theorem BackR.setCell {V : Nat → Int → Prop} {Bs : Nat} {A : Option Addr} {m c : Nat} {W : World} (h : BackR V Bs A m c W) {b : Nat} (hb : Bs ≠ b) (hA : 0 < m → ∀ ad, A = some ad → ad.block ≠ b) (i : Nat) (v : Value) : BackR V Bs A m c (W.setCell ⟨b, i, none⟩ v) :=
  ⟨by rw [← h.1]; exact World.cell?_setCell_other (w := W) (a := ⟨b, i, none⟩) (b := ⟨Bs, 0, none⟩) v (by intro e; exact hb (congrArg Addr.block e).symm),
  fun j hj => by
    obtain ⟨ad, u, h1, h2, h3⟩ := h.2 j hj
    refine ⟨ad, u, h1, ?_, h3⟩
    rw [← h2]
    exact World.cell?_setCell_other (w := W) (a := ⟨b, i, none⟩) (b := ad.add j) v (by intro e2; exact hA (by omega) ad h1 (by have := congrArg Addr.block e2; rw [block_of_add] at this; exact this.symm))⟩
theorem BackR.ofIL {Bs : Nat} {A : Option Addr} {m c : Nat} {W : World} {xs : List Int} (h1 : W.cell? ⟨Bs, 0, none⟩ = some (.slice A m c)) (h2 : IL W A m xs) : BackR (fun j v => v = xs.getD j 0) Bs A m c W :=
  ⟨h1, fun j hj => by
    obtain ⟨ad, e, hc⟩ := h2.at_ hj
    exact ⟨ad, _, e, hc, rfl⟩⟩
end Go.Proofs.Ytndgffiihbdppaa
/- Package laurent: Eval. -/
namespace Go.Proofs.Ytndgffiihbdppaa
set_option linter.unusedVariables false
set_option linter.unusedSimpArgs false
open Go.RowKit Go.Shelf
attribute [local go_sem] Oper.semAt_some

/-! ### Horner's rule, with the machine's wraps -/
def evW {m : Nat} (x : Int) (ps : List (BackX m)) : Int := ps.foldl (fun s p => wrap64 (wrap64 (s * x) + p.1.2)) 0
theorem evW_snoc {m : Nat} (x : Int) (ps : List (BackX m)) (p : BackX m) : evW x (ps ++ [p]) = wrap64 (wrap64 (evW x ps * x) + p.1.2) := by simp [evW]
def hornH (neg : Bool) (xs : List Int) (n k : Nat) : Int := CR.sumN k fun i => xs.getD (n - k + i) 0 * LP.pw neg i
theorem pw_succ (neg : Bool) (x : Int) (hx : x = if neg then -1 else 1) (i : Nat) : LP.pw neg ((i + 1 : Nat) : Int) = LP.pw neg i * x := by
  subst hx
  unfold LP.pw
  cases neg
  · simp
  · simp only [true_and, if_true]
    by_cases h : (i : Int) % 2 ≠ 0
    · rw [if_pos h, if_neg (by omega)]; rfl
    · rw [if_neg h, if_pos (by omega)]; rfl
theorem hornH_succ (neg : Bool) (x : Int) (hx : x = if neg then -1 else 1) (xs : List Int) {n k : Nat} (hk : k < n) : hornH neg xs n (k + 1) = hornH neg xs n k * x + xs.getD (n - 1 - k) 0 := by
  unfold hornH
  rw [CR.sumN_first, Int.add_comm]
  have h0 : LP.pw neg ((0 : Nat) : Int) = 1 := by unfold LP.pw; simp
  rw [h0, Int.mul_one, show n - (k + 1) + 0 = n - 1 - k by omega]
  congr 1
  rw [Int.mul_comm, ← CR.sumN_mul]
  refine CR.sumN_congr fun i hi => ?_
  rw [pw_succ neg x hx, show n - (k + 1) + (i + 1) = n - k + i by omega]
  show _ = x * _
  rw [← Int.mul_assoc, Int.mul_comm]
theorem hornH_le (neg : Bool) {xs : List Int} (h : ∀ j, (xs.getD j 0).natAbs ≤ 100000000) (n k : Nat) : (hornH neg xs n k).natAbs ≤ k * 100000000 := by
  unfold hornH
  refine LP.natAbs_sumN fun i _ => ?_
  rw [Int.natAbs_mul]
  have := h (n - k + i)
  rcases LP.pw_cases neg i with e | e <;> rw [e] <;> simpa using this
theorem hornH_all (neg : Bool) (la : Int) (xs : List Int) : LP.ev neg (LP.of la xs) = LP.pw neg la * hornH neg xs xs.length xs.length := by
  unfold LP.ev hornH
  rw [LP.lin_of, ← CR.sumN_mul]
  refine CR.sumN_congr fun i _ => ?_
  rw [LP.pw_add, show xs.length - xs.length + i = i by omega]
  show _ = LP.pw neg la * _
  rw [← Int.mul_assoc, ← Int.mul_assoc, Int.mul_comm (LP.pw neg la)]
theorem evW_horn {n : Nat} (neg : Bool) (x : Int) (hx : x = if neg then -1 else 1) {xs : List Int} (hb : ∀ j, (xs.getD j 0).natAbs ≤ 100000000) (hn : n ≤ 200) {ys : List (BackX n)} (hS : BackS (fun j v => v = xs.getD j 0) ys) : ∀ k, k ≤ ys.length → evW x (ys.take k) = hornH neg xs n k
  | 0, _ => by rw [List.take_zero]; rfl
  | k + 1, hk => by
    have hlt : k < ys.length := hk
    have h1 := evW_horn neg x hx hb hn hS k (by omega)
    obtain ⟨_, h2⟩ := hS.2 k ys[k] (List.getElem?_eq_getElem hlt)
    have hl := hS.1
    rw [List.take_succ_eq_append_getElem hlt, evW_snoc, h1, h2, hornH_succ neg x hx xs (by omega)]
    have h3 := hornH_le neg hb n k
    have h4 := hb (n - 1 - k)
    have h5 : (hornH neg xs n k * x).natAbs ≤ 20000000000 := by
      rw [Int.natAbs_mul]
      have : x.natAbs = 1 := by rw [hx]; cases neg <;> rfl
      rw [this, Nat.mul_one]
      exact Nat.le_trans h3 (by have := Nat.mul_le_mul_right 100000000 (show k ≤ 200 by omega); omega)
    generalize hornH neg xs n k * x = a at *
    generalize xs.getD (n - 1 - k) 0 = b at *
    unfold wrap64
    omega

theorem results_tt {fn : Func} {t u : Tmp} {v e : Value} {w : World} (h : fn.results = #[.tmp t, .tmp u]) (tmps : Array Value) (ht : tmps.getD t undef = v) (hu : tmps.getD u undef = e) : (results fn tmps).run Try.prog w = .ok (.tuple #[v, e]) w := by
  have ht2 : tmps[t]?.getD undef = v := by simpa using ht
  have hu2 : tmps[u]?.getD undef = e := by simpa using hu
  simp [results, h, ht2, hu2, go_sem, Result.andThen]

set_option maxRecDepth 100000 in
set_option maxHeartbeats 8000000 in
theorem leval_any (la : Int) (A : Option Addr) (n c : Nat) (xs : List Int) (x : Int) (w : World) (ha : SL w A n c xs) (hwa : (Lit.int .i64 la).wf = true) (hwx : (Lit.int .i64 x).wf = true) :
    Calls Try.prog 18 #[PV la A n c, .int .i64 x] w fun e w' => e = .returned (.tuple #[.int .i64 (LP.evalV la xs x), .int .i64 (LP.evalE la xs x)]) ∧ Below w.heap.size w w' := by
  have hla := ha.il.len
  have hns := ha.il.small
  have HIN := hide ha.inside
  have hbw : Below w.heap.size w ((w.alloc (.cells #[.int .i64 la, .slice A n c] 36)).alloc (.cells #[.int .i64 x] 3)) := ((Below.refl _ _).alloc (Nat.le_refl _) _).alloc (by simp) _
  have hA := (Blk.new w 36 #[.int .i64 la, .slice A n c]).alloc (.cells #[.int .i64 x] 3)
  have hX := Blk.new (w.alloc (.cells #[.int .i64 la, .slice A n c] 36)) 3 #[.int .i64 x]
  simp only [World.size_alloc] at hX
  have HA := hide (ha.below hbw)
  have HW := hide hbw
  clear ha hbw
  have BA := hide hA
  have BX := hide hX
  clear hA hX
  obtain ⟨VV, hV⟩ : ∃ V, LP.evalV la xs x = V := ⟨_, rfl⟩
  obtain ⟨EE, hE⟩ : ∃ E, LP.evalE la xs x = E := ⟨_, rfl⟩
  have HV := hide hV
  have HE := hide hE
  rw [hV, hE]
  clear hV hE
  refine (callsIn_wide (n := 9)).1 (callsIn_of_wp_marks Try.func18 rfl trivial ?_ rfl)
  simp only [Try.ntmps18, List.size_toArray, List.length_cons, List.length_nil, Nat.reduceAdd, Nat.reduceSub, Array.replicate_succ, Array.replicate_zero, List.push_toArray, List.append_toArray, List.nil_append, List.cons_append]
  refine wpIn_wide.2 ?_
  go_upto_region 1 with fail
  obtain ⟨w0, hw0⟩ : ∃ x2, ((w.alloc (.cells #[.int .i64 la, .slice A n c] 36)).alloc (.cells #[.int .i64 x] 3)) = x2 := ⟨_, rfl⟩
  rw [hw0] at HA HW BA BX ⊢
  clear hw0
  have hq0 := BA.out.cell 0
  have hq1 := BA.out.cell 1
  simp at hq0 hq1
  go_wp2_with fail
  refine (lcheck_any la A n c xs _ HA.out).mono ?_
  rintro e w1 ⟨rfl, hb⟩
  replace HA := hide (HA.out.below hb)
  replace HW := hide (HW.out.trans (hb.mono HW.out.size))
  replace BA := hide (BA.out.below hb BA.out.lt)
  replace BX := hide (BX.out.below hb BX.out.lt)
  clear hb hq0 hq1
  obtain ⟨p, hp⟩ : ∃ p, LP.pfl la xs = p := ⟨_, rfl⟩
  rw [hp]
  have HP := hide hp
  clear hp
  by_cases hp0 : p = 0
  case neg =>
    have HEE : Hid (EE = p) := hide (by rw [← HE.out]; unfold LP.evalE; rw [HP.out, if_neg hp0])
    have HVV : Hid (VV = 0) := hide (by rw [← HV.out]; unfold LP.evalV; rw [HE.out, HEE.out, if_neg hp0])
    have hne : (p != 0) = true := by simpa using hp0
    go_wp2_with fail
    refine ⟨_, results_tt rfl _ rfl rfl, ?_⟩
    rw [HEE.out, HVV.out]
    exact ⟨rfl, HW.out⟩
  subst hp0
  by_cases hx1 : x = 1 ∨ x = -1
  case neg =>
    have HEE : Hid (EE = 1) := hide (by rw [← HE.out]; unfold LP.evalE; rw [if_pos HP.out, if_neg hx1])
    have HVV : Hid (VV = 0) := hide (by rw [← HV.out]; unfold LP.evalV; rw [HE.out, HEE.out]; rfl)
    have h1 : (x != 1) = true := by simp; omega
    have h2 : (x != -1) = true := by simp; omega
    have hqx := BX.out.cell 0
    simp at hqx
    clear hx1
    go_wp2_with fail
    refine ⟨_, results_tt rfl _ rfl rfl, ?_⟩
    rw [HEE.out, HVV.out]
    exact ⟨rfl, HW.out⟩
  have HEE : Hid (EE = 0) := hide (by rw [← HE.out]; unfold LP.evalE; rw [if_pos HP.out, if_pos hx1])
  obtain ⟨pa1, pa2, pa3, _, pa5⟩ := LP.pfl_zero HP.out
  rw [hla] at pa1
  obtain ⟨neg, hneg⟩ : ∃ neg : Bool, x = if neg then -1 else 1 := by
    rcases hx1 with h | h
    · exact ⟨false, h⟩
    · exact ⟨true, h⟩
  have HNEG := hide hneg
  have HXB : Hid (∀ j, (xs.getD j 0).natAbs ≤ 100000000) := hide (fun j => by
    by_cases hj : j < xs.length
    · exact pa5 _ (LP.getD_mem' hj)
    · rw [List.getD_eq_getElem?_getD, List.getElem?_eq_none (by omega)]; decide)
  have HVE : Hid (VV = LP.pw neg la * hornH neg xs n n) := hide (by
    rw [← HV.out]
    unfold LP.evalV
    rw [HE.out, HEE.out, if_pos rfl]
    have hd : decide (x = -1) = neg := by rw [hneg]; cases neg <;> rfl
    rw [hd, hornH_all, hla])
  have hqx := BX.out.cell 0
  have hq0 := BA.out.cell 0
  have hq1 := BA.out.cell 1
  simp at hqx hq0 hq1
  clear HP HE HV pa5 hneg hwa hwx
  go_upto_region 4 with fail
  go_cut [15, 16, 17, 18, 19, 20] from 15 to 20 (fun _ _ _ _ _ v wx => v = .bool false ∧ w1 = wx)
  case first =>
    rcases hx1 with rfl | rfl
    · go_wp2_with fail
      go_meet
      exact ⟨rfl, rfl⟩
    · go_wp2_with fail
      go_meet
      exact ⟨rfl, rfl⟩
  case rest =>
    obtain ⟨rfl, rfl⟩ := hcut
    clear hx1
    go_upto_region 7 with fail
    have HB5 : Hid (Below w1.heap.size w1 (w1.alloc (.cells #[.int .i64 0] 3))) := hide ((Below.refl _ _).alloc (Nat.le_refl _) _)
    have KV0 := hide (Blk.new w1 3 #[.int .i64 0])
    obtain ⟨bv, hbv⟩ : ∃ b, w1.heap.size = b := ⟨_, rfl⟩
    have hlbv : w.heap.size + 1 < bv := by have := BX.out.lt; omega
    obtain ⟨w2, hw2⟩ : ∃ x, w1.alloc (.cells #[.int .i64 0] 3) = x := ⟨_, rfl⟩
    rw [hw2] at HB5 KV0 ⊢
    replace HA := hide (HA.out.below HB5.out)
    replace HW := hide (HW.out.trans (HB5.out.mono HW.out.size))
    replace BA := hide (BA.out.below HB5.out BA.out.lt)
    replace BX := hide (BX.out.below HB5.out BX.out.lt)
    rw [hbv] at KV0 ⊢
    clear hbv hw2 HB5 hqx hq0 hq1
    have hq0 := BA.out.cell 0
    have hq1 := BA.out.cell 1
    simp at hq0 hq1
    go_wp2_with fail
    refine (backF_any A n c _).mono ?_
    rintro e w3 ⟨rfl, rfl⟩
    clear hq0 hq1
    go_wp2_with fail
    have HBB : Hid (Below w2.heap.size w2 (w2.alloc (.cells #[.slice A n c] 22))) := hide ((Below.refl _ _).alloc (Nat.le_refl _) _)
    have KB0 := hide (Blk.new w2 22 #[.slice A n c])
    obtain ⟨bb, hbb⟩ : ∃ b, w2.heap.size = b := ⟨_, rfl⟩
    have hlbb : bv < bb := by have := KV0.out.lt; omega
    obtain ⟨w3, hw3⟩ : ∃ x, w2.alloc (.cells #[.slice A n c] 22) = x := ⟨_, rfl⟩
    rw [hw3] at HBB KB0 ⊢
    replace HA := hide (HA.out.below HBB.out)
    replace HW := hide (HW.out.trans (HBB.out.mono HW.out.size))
    replace BA := hide (BA.out.below HBB.out BA.out.lt)
    replace BX := hide (BX.out.below HBB.out BX.out.lt)
    replace KV0 := hide (KV0.out.below HBB.out KV0.out.lt)
    rw [hbb] at KB0 ⊢
    clear hbb hw3 HBB
    have hl3 : bb < w3.heap.size := KB0.out.lt
    have hcv0 := KV0.out.cell 0
    simp at hcv0
    refine (wpIn_wide (n := 9)).1 (wpIn_rangeFunc_ownG rfl (by decide) (gf := 78) (lb := #[.pointer (some ⟨bb, 0, none⟩)]) rfl trivial eBackX
      (back_stops Fence.wide (9 - 1) trivial rfl (by decide) bb (fun j v => v = xs.getD j 0) A n c hns w3 (fun W hW => BackR.ofIL (by have h := (KB0.out.below hW KB0.out.lt).cell 0; simpa using h) (HA.out.below hW).il))
      (fun h k hr => k (h hr)) (fun W l o o' _ h ho _ => backK_b W l o o' h ho) (Below.refl _ _) (fun _ => rfl)
      (fun pre W => (W.cell? ⟨bv, 0, none⟩ = some (.int .i64 (evW x pre)) ∧ W.frozen? ⟨bv, 0, none⟩ = false) ∧ Below bv w3 W)
      (fun _ _ _ => False)
      (OwnFrom.and (Own.from (fun s A B row hs hg hr => ⟨cell_kept hs.1 hg hr, (frozen_kept hs.1 hg hr).trans hs.2⟩) _) (ownFrom_below (by omega) (by omega)))
      (fun _ _ _ _ _ hs _ _ => hs)
      ⟨⟨hcv0, KV0.out.frozen 0⟩, Below.refl _ _⟩
      (fun p => { tmps := #[PV la A n c, Value.int IntKind.i64 x, Value.pointer (some { block := w.heap.size, off := 0 }),
          Value.pointer (some { block := w.heap.size + 1, off := 0 }), Value.int IntKind.i64 0, Value.int IntKind.i64 0,
          Value.int IntKind.i64 0, Value.pointer (some { block := bv, off := 0 }), undef, Value.int IntKind.i64 p.1.2,
          Value.agg #[Value.int IntKind.i64 la, Value.slice A n c], Value.int IntKind.i64 0, Value.int IntKind.i64 0,
          Value.bool false, undef, u15, u16, u17, u18, u19, Value.bool false,
          Value.pointer (some { block := w.heap.size, off := 1 }), Value.slice A n c,
          Value.func (Fn.func 78) #[] #[Value.pointer (some { block := bb, off := 0 })], Value.int IntKind.i64 p.1.1, Value.int IntKind.i64 p.1.2, undef,
          undef, undef, undef, undef, undef, undef, undef, undef, undef, undef, undef, undef], defers := [] }) ?assign ?body ?done ?stop)
    case assign =>
      intro l p W K hK
      gi_wp2
      exact hK
    case body =>
      rintro l pre p W ⟨⟨hc, hf⟩, hB⟩ _
      have hqx := (BX.out.below hB (by omega)).cell 0
      simp at hqx
      have HB := hide hB
      have HC := hide hc
      have HF := hide hf
      clear hB
      gi_wp2
      exact ⟨(KeepsOthers.setCell _ _ _).from _, fun hr => hr.setCell (by omega) (fun h ad e => by have := HIN.out h ad e; omega) 0 _, ⟨by rw [evW_snoc]; exact World.cell?_setCell_same' _ _ _ (by rw [HC.out]; rfl), by rw [World.frozen?_setCell]; exact HF.out⟩, HB.out.setCell (p := ⟨bv, 0, none⟩) (Nat.le_refl _) _⟩
    case done =>
      rintro D ys W hD ⟨hlen, hS⟩ ⟨⟨hc, hf⟩, hB⟩ hK
      have hev : evW x ys = hornH neg xs n n := by
        have h := evW_horn neg x HNEG.out HXB.out pa1 hS ys.length (Nat.le_refl _)
        rw [List.take_length, hlen] at h
        exact h
      rw [hev] at hc
      have hle := hornH_le neg HXB.out n n
      have HB := hide hB
      have HK := hide hK
      have hq0 := (BA.out.below hB (by omega)).cell 0
      have hqx := (BX.out.below hB (by omega)).cell 0
      simp at hq0 hqx
      obtain ⟨s, hs⟩ : ∃ s, hornH neg xs n n = s := ⟨_, rfl⟩
      rw [hs] at hc hle HVE
      have hsl : s.natAbs ≤ 20000000000 := Nat.le_trans hle (by have := Nat.mul_le_mul_right 100000000 pa1; omega)
      have hxa : x.natAbs = 1 := by rw [HNEG.out]; cases neg <;> rfl
      have hsx : (s * x).natAbs ≤ 20000000000 := by rw [Int.natAbs_mul, hxa, Nat.mul_one]; exact hsl
      have hwsx : IntKind.i64.wrap (s * x) = s * x := by rw [IntKind.wrap_i64]; generalize s * x = t at *; omega
      have hDb : bv < D := by omega
      clear hev hs hle hlen hS hB hK hsx
      by_cases hev : la.tmod 2 = 0
      · have HR : Hid (VV = s) := hide (by
          rw [HVE.out]
          have h2 : la % 2 = 0 := by
            have := (Int.dvd_iff_tmod_eq_zero (a := 2) (b := la)).2 hev
            omega
          have : LP.pw neg la = 1 := by unfold LP.pw; rw [if_neg]; rintro ⟨_, h⟩; exact h h2
          rw [this, Int.one_mul])
        have hne : (la.tmod 2 != 0) = false := by simpa using hev
        clear HVE
        go_wp2_with fail
        refine ⟨by simp, .inl ⟨_, _, rfl, run_takeDeferred HK.out, ?_⟩⟩
        refine ⟨_, results_tt rfl _ rfl rfl, ?_⟩
        rw [HEE.out, HR.out]
        exact ⟨rfl, (HW.out.trans (HB.out.mono (by omega))).trans (belowK_b (w := w) (Nat.le_refl _) W D _ _ (by omega) HK.out rfl rfl)⟩
      · have HR : Hid (VV = s * x) := hide (by
          rw [HVE.out]
          have h2 : la % 2 ≠ 0 := fun h => hev ((Int.dvd_iff_tmod_eq_zero (a := 2) (b := la)).1 (by omega))
          have : LP.pw neg la = x := by
            rw [HNEG.out]
            unfold LP.pw
            cases neg
            · simp
            · rw [if_pos ⟨rfl, h2⟩]; rfl
          rw [this, Int.mul_comm])
        have hne : (la.tmod 2 != 0) = true := by simpa using hev
        have hK2 := hide ((KeepsOthers.setCell W ⟨bv, 0, none⟩ (.int .i64 (s * x))).same D _ HK.out rfl)
        have hB2 := hide (HB.out.setCell (p := ⟨bv, 0, none⟩) (Nat.le_refl _) (.int .i64 (s * x)))
        clear HVE hev
        go_wp2_with fail
        refine ⟨by simp, .inl ⟨_, _, rfl, run_takeDeferred hK2.out, ?_⟩⟩
        refine ⟨_, results_tt rfl _ rfl rfl, ?_⟩
        rw [HEE.out, HR.out]
        exact ⟨rfl, (HW.out.trans (hB2.out.mono (by omega))).trans (belowK_b (w := w) (Nat.le_refl _) _ D _ _ (by omega) hK2.out rfl rfl)⟩
    case stop =>
      rintro D c pre W _ _ h _
      exact h.elim
end Go.Proofs.Ytndgffiihbdppaa
/- Package laurent answers as the document asks. -/
namespace Go.Proofs.Ytndgffiihbdppaa
theorem polyC : PolyC where
  check la A n c xs w ha _ := lcheck_any la A n c xs w ha -- 53
  add la A n c xs lb B m d ys w ha hb _ _ := ladd_any la A n c xs lb B m d ys w ha hb -- 80
  sub la A n c xs lb B m d ys w ha hb _ _ := lsub_any la A n c xs lb B m d ys w ha hb -- 81
  mul la A n c xs lb B m d ys w ha hb _ _ := lmul_any la A n c xs lb B m d ys w ha hb -- 51
  eval la A n c xs x w ha hla hx := leval_any la A n c xs x w ha hla hx -- 18
  conj la A n c xs w ha _ := lconj_any la A n c xs w ha -- 21
  norm la A n c xs w ha _ := lnorm_any la A n c xs w ha -- 22
end Go.Proofs.Ytndgffiihbdppaa
