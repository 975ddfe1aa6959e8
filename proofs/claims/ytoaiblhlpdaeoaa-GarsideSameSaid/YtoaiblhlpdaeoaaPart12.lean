/- Several texts in one. -/
import Derived.Test.YtoaiblhlpdaeoaaPart11
import Derived.Test.YtoaiblhlpdaeoaaPart6
/- GarsideSame. -/
namespace Go.Proofs.Ytoaiblhlpdaeoaa
set_option linter.unusedVariables false
set_option linter.unusedSimpArgs false
open Go.RowKit Gar

theorem gp_of_rel {n : Nat} {a b : List Int} (ha : okB n a) (hb : okB n b) (h : RelA a b) : gp n a = gp n b := (gp_iff (okB_Lo ha) (okB_Lo hb)).2 ((relA_quot ha hb).1 h)
theorem gp_letter {n j : Nat} (hj : 0 < j) (hn : j < n) : gp n [(j : Int)] ≠ 1 := fun e => by
  have hok : okB n [(j : Int)] := fun x hx => by simp at hx; omega
  have h := gp_relA (okB_okl hok) (fun x hx => by cases hx) (show gp n [(j : Int)] = gp n [] from e)
  have h1 := h [(j : Int)] (fun z hz => by simp at hz; omega)
  have h2 : nf (artC [(j : Int)] [(j : Int)]) = [(j : Int), (j : Int) + 1, -(j : Int)] := by
    show nf (artW (j : Int) [(j : Int)]) = _
    rw [artW_one, artL_p hj]
    exact nf_of_red ⟨by omega, by omega, trivial⟩
  rw [h2] at h1
  have h3 : [(j : Int), (j : Int) + 1, -(j : Int)] = [(j : Int)] := h1
  simp at h3
theorem bf_ok {n : Nat} (h1 : 1 ≤ n) (h6 : n ≤ 6) {w : List Int} (hw : okB n w) (hl : w.length ≤ 30) : bfault (n : Int) w = 0 := bfault_ok (by omega) (by omega) hl fun x hx => by have := hw x hx; omega
theorem eq2_ok {n : Nat} {a b : List Int} (h1 : bfault (n : Int) a = 0) (h2 : bfault (n : Int) b = 0) : eq2E (n : Int) a b = 0 := by unfold eq2E; rw [if_neg (by rw [h1]; simp), h2]
open Classical in
theorem geq_yes {n : Nat} {a b : List Int} (h1 : bfault (n : Int) a = 0) (h2 : bfault (n : Int) b = 0) (e : gp n a = gp n b) : geqB (n : Int) a b = true := by
  unfold geqB
  rw [Int.toNat_natCast, decide_eq_true (eq2_ok h1 h2), decide_eq_true e]
  rfl
open Classical in
theorem geq_not {n : Nat} {a b : List Int} (e : gp n a ≠ gp n b) : geqB (n : Int) a b = false := by
  unfold geqB
  rw [Int.toNat_natCast, decide_eq_false e, Bool.and_false]
/-- What Word gives for a normal form. -/
theorem word_nf {n : Nat} (h2 : 2 ≤ n) (h6 : n ≤ 6) {xs : List Int} {k : Int} {l : List (List Nat)} (h : NFw n xs k l) (hl : l.length ≤ 30) (hk : k.natAbs ≤ 30) :
    (wordE (n : Int) k (l.map zs) = 2 ∧ wordL (n : Int) k (l.map zs) = []) ∨ (wordE (n : Int) k (l.map zs) = 0 ∧ wordL (n : Int) k (l.map zs) = wriW n k l ∧ bfault (n : Int) (wriW n k l) = 0 ∧ gp n (wriW n k l) = gp n xs) := by
  have h0 := ffE_nf h2 h6 h.pl h.nf hl
  by_cases h30 : 30 < (wriW n k l).length
  · refine .inl ?_
    have e1 : wordE (n : Int) k (l.map zs) = 2 := by unfold wordE; rw [if_neg (by rw [h0]; simp), if_neg (by omega), Int.toNat_natCast, nlL_zs, if_pos h30]
    exact ⟨e1, by unfold wordL; rw [if_neg (by rw [e1]; decide)]⟩
  · refine .inr ?_
    have e1 : wordE (n : Int) k (l.map zs) = 0 := by unfold wordE; rw [if_neg (by rw [h0]; simp), if_neg (by omega), Int.toNat_natCast, nlL_zs, if_neg h30]
    exact ⟨e1, by unfold wordL; rw [if_pos e1, Int.toNat_natCast, nlL_zs], bf_ok (by omega) h6 (okB_wri k h.pl) (by omega), by rw [gp_wri k h.pl, h.val]⟩

set_option maxRecDepth 100000 in
set_option maxHeartbeats 8000000 in
theorem garsideSame_any (F : GarC) (nn : Int) (A : Option Addr) (n c : Nat) (us : List Int) (B : Option Addr) (m d : Nat) (vs : List Int) (i k : Int) (w : World) (ha : SL w A n c us) (hb : SL w B m d vs) :
    Calls Try.prog 6 #[.int .i64 nn, .slice A n c, .slice B m d, .int .i64 i, .int .i64 k] w fun e w' => e = .returned (.bool true) ∧ Below w.heap.size w w' := by
  have HF := hide F
  have HA := hide ha
  have HB := hide hb
  obtain ⟨i0, hi0, hz0, hz1, hz2⟩ := info_parts int_info
  have HI0 := hide hi0
  have HZ0 := hide hz0
  have HZ1 := hide hz1
  have HZ2 := hide hz2
  clear F ha hb hi0 hz0 hz1 hz2
  have hnt := Bool.not_true
  have hnf := Bool.not_false
  go_enter Try.func6, Try.ntmps6
  go_wp2_with fail
  refine (strands_any nn w).mono ?_
  rintro e w0 ⟨T, hT1, hT5, rfl, hww⟩
  replace hww := hww.symm
  subst hww
  go_wp2_with fail
  refine (around_any T 10 10 rfl ⟨hT1, hT5⟩ (by omega) A n c us B m d vs i k w HA.out HB.out).mono ?_
  rintro e w1 ⟨P, pn, pc, Q, qn, qc, us2, vs2, xs, ys, rfl, hs1, hs2, hsd, hou, hov, hlu, hlv, hb⟩
  have oa : okB (T + 1) (us2 ++ xs ++ vs2) := okB_app (okB_app hou hsd.ok1) hov
  have ob : okB (T + 1) (us2 ++ ys ++ vs2) := okB_app (okB_app hou hsd.ok2) hov
  have hr : RelA (us2 ++ xs ++ vs2) (us2 ++ ys ++ vs2) := hsd.a.mid (okB_nz hsd.ok1) (okB_nz hsd.ok2) (okB_nz hou) (okB_nz hov)
  have hla : (us2 ++ xs ++ vs2).length ≤ 23 := by simp; have := hsd.l1; omega
  have hlb : (us2 ++ ys ++ vs2).length ≤ 23 := by simp; have := hsd.l2; omega
  have SP := hide hs1
  have SQ := hide hs2
  have HW := hide hb
  clear hs1 hs2 hsd hou hov hlu hlv HA HB hb
  generalize us2 ++ xs ++ vs2 = a at *
  generalize us2 ++ ys ++ vs2 = b at *
  obtain ⟨N, hN⟩ : ∃ N, T + 1 = N := ⟨_, rfl⟩
  rw [hN] at oa ob
  have hTi : (T : Int) + 1 = (N : Int) := by omega
  rw [hTi]
  have hN2 : 2 ≤ N := by omega
  have hN6 : N ≤ 6 := by omega
  have HGE := hide (gp_of_rel oa ob hr)
  have HFA := hide (bf_ok (by omega) hN6 oa (by omega))
  have HFB := hide (bf_ok (by omega) hN6 ob (by omega))
  have o1 : okB N [(1 : Int)] := fun x hx => by simp at hx; omega
  have HFC := hide (bf_ok (w := b ++ [1]) (by omega) hN6 (okB_app ob o1) (by simp; omega))
  have HNE : Hid (gp N a ≠ gp N (b ++ [1])) := hide (fun e => by
    rw [HGE.out, ← gp_mul] at e
    refine gp_letter (n := N) (j := 1) (by omega) (by omega) ?_
    refine G_cancel (x := gp N b) ?_
    rw [G_mul_one]
    exact e.symm)
  have HWM := hide (wfI (x := (N : Int)) (by omega))
  have HLA := hide hla
  have HLB := hide hlb
  have HOA := hide oa
  clear hr oa ob o1 hla hlb hN hTi hT1 hT5
  go_wp2_with fail
  refine (HF.out.normal (N : Int) P pn pc a w1 SP.out HWM.out).mono ?_
  rintro e w2 ⟨kk, l, L, ln, lc, rfl, hs, hb, g, _⟩
  rw [HFA.out]
  have hnf1 := g HFA.out
  rw [Int.toNat_natCast] at hnf1
  have hk1 := power_ge hN2 hnf1.nf hnf1.val
  have hk2 := power_le hN2 hnf1.nf hnf1.val
  have hl1 := factors_le hN2 hnf1.nf hnf1.val
  rw [List.length_map] at hl1
  have hla := HLA.out
  have hkb : kk.natAbs ≤ 23 := by omega
  have hlb : l.length ≤ 23 := by omega
  have HNF := hide hnf1
  have SL1 := hide hs
  replace SP := hide (SP.out.below hb)
  replace SQ := hide (SQ.out.below hb)
  replace HW := hide (HW.out.trans (hb.mono HW.out.size))
  have HWK := hide (wfI (x := kk) (by omega))
  have HLB2 := hide hlb
  have HKB := hide hkb
  clear hs hb g hnf1 hk1 hk2 hl1 hla hkb hlb
  go_upto_region 4 with fail
  go_wp2_with fail
  refine (HF.out.equal (N : Int) P pn pc a Q qn qc b w2 SP.out SQ.out HWM.out).mono ?_
  rintro e w3 ⟨rfl, hb⟩
  rw [geq_yes HFA.out HFB.out HGE.out, eq2_ok HFA.out HFB.out]
  replace SP := hide (SP.out.below hb)
  replace SQ := hide (SQ.out.below hb)
  replace SL1 := hide (SL1.out.below hb)
  replace HW := hide (HW.out.trans (hb.mono HW.out.size))
  clear hb
  go_upto_region 5 with fail
  go_wp2_with fail
  refine (clone_any Q qn qc b w3 SQ.out.il SQ.out.nil).mono ?_
  rintro e w4 ⟨G, gn, gc, rfl, ho, hb⟩
  have HO := hide ho
  have hgl : gn + 1 ≤ 1000000 := by have h0 := ho.len; have h1 := HLB.out; omega
  have hgs := ho.small
  have hszc := hb.size
  have HB4 := hide hb
  clear ho hb
  go_wp2_with (at_builtin; refine wpList_append_int _ rfl (.tmp 50) (.tmp 51) 22 rfl w3.heap.size i0 Try.underlying22 HI0.out HZ0.out HZ1.out HZ2.out G gn gc b rfl (HO.out.alloc _) (some ⟨w4.heap.size, 0, none⟩) 1 1 [(1 : Int)] rfl (IL.lit w4 [(1 : Int)] (by simp) rfl rfl) (by omega) (Nat.le_trans hszc (by simp)) ?_; intro A9 c9 w9 happ)
  have hlies : ∀ q, (Value.slice G (gn + 1) gc).ownBlock = some q → w3.heap.size ≤ q := fun q hq => (HO.out.lt q (by rw [ownBlock_len G gn (gn + 1) gc gc]; exact hq)).1
  have hb : Below w3.heap.size w3 w9 := (HB4.out.alloc hszc _).grown happ.grown (Nat.le_trans hszc (by simp)) hlies
  have S2 := hide happ.own.sl
  replace SP := hide (SP.out.below hb)
  replace SQ := hide (SQ.out.below hb)
  replace SL1 := hide (SL1.out.below hb)
  replace HW := hide (HW.out.trans (hb.mono HW.out.size))
  clear happ hb hlies HO HB4 hszc hgs hgl
  refine (HF.out.equal (N : Int) P pn pc a A9 (gn + 1) c9 (b ++ [1]) w9 SP.out S2.out HWM.out).mono ?_
  rintro e w5 ⟨rfl, hb⟩
  rw [geq_not HNE.out, eq2_ok HFA.out HFC.out]
  replace SP := hide (SP.out.below hb)
  replace SQ := hide (SQ.out.below hb)
  replace SL1 := hide (SL1.out.below hb)
  replace HW := hide (HW.out.trans (hb.mono HW.out.size))
  clear hb S2
  go_upto_region 6 with fail
  go_wp2_with fail
  refine (formed_k HF.out w5).mono ?_
  rintro e w6 ⟨rfl, hb⟩
  replace SP := hide (SP.out.below hb)
  replace SQ := hide (SQ.out.below hb)
  replace SL1 := hide (SL1.out.below hb)
  replace HW := hide (HW.out.trans (hb.mono HW.out.size))
  clear hb
  go_wp2_with fail
  refine (forms_any HF.out (N : Int) P pn pc a Q qn qc b w6 SP.out SQ.out HWM.out (by omega) HFA.out HFB.out (by rw [Int.toNat_natCast]; exact HGE.out)).mono ?_
  rintro e w7 ⟨rfl, hb⟩
  replace SP := hide (SP.out.below hb)
  replace SL1 := hide (SL1.out.below hb)
  replace HW := hide (HW.out.trans (hb.mono HW.out.size))
  clear hb
  go_wp2_with fail
  refine (HF.out.check (N : Int) L ln lc _ w7 SL1.out HWM.out).mono ?_
  rintro e w8 ⟨rfl, hb⟩
  rw [ffE_nf hN2 hN6 HNF.out.pl HNF.out.nf (by have := HLB2.out; omega)]
  replace SP := hide (SP.out.below hb)
  replace SL1 := hide (SL1.out.below hb)
  replace HW := hide (HW.out.trans (hb.mono HW.out.size))
  clear hb
  go_upto_region 8 with fail
  go_wp2_with fail
  have HWD := hide (HF.out.word (N : Int) kk L ln lc _ w8 SL1.out HWM.out HWK.out)
  rcases word_nf hN2 hN6 HNF.out (by have := HLB2.out; omega) (by have := HKB.out; omega) with ⟨e1, e2⟩ | ⟨e1, e2, e3, e4⟩
  · rw [e1, e2] at HWD
    clear e1 e2
    refine HWD.out.mono ?_
    rintro e w10 ⟨R, rn, rc, rfl, hs, hb⟩
    replace HW := hide (HW.out.trans (hb.mono HW.out.size))
    clear hs hb HWD
    go_wp2_with fail
    go_ret
    exact ⟨rfl, HW.out⟩
  · rw [e1, e2] at HWD
    have E3 := hide e3
    have E4 := hide (HNF.out.val)
    have E5 := hide e4
    clear e1 e2 e3 e4
    refine HWD.out.mono ?_
    rintro e w10 ⟨R, rn, rc, rfl, hs, hb⟩
    replace SP := hide (SP.out.below hb)
    replace HW := hide (HW.out.trans (hb.mono HW.out.size))
    have SR := hide hs
    clear hs hb HWD
    go_wp2_with fail
    refine (forms_any HF.out (N : Int) P pn pc a R rn rc _ w10 SP.out SR.out HWM.out (by omega) HFA.out E3.out (by rw [Int.toNat_natCast]; exact E5.out.symm)).mono ?_
    rintro e w11 ⟨rfl, hb⟩
    replace HW := hide (HW.out.trans (hb.mono HW.out.size))
    clear hb
    go_wp2_with fail
    go_ret
    exact ⟨rfl, HW.out⟩
end Go.Proofs.Ytoaiblhlpdaeoaa
