/- Several texts in one. -/
import Derived.Test.YtoaiblhlpdaeoaaPart10
import Derived.Test.YtoaiblhlpdaeoaaPart1
import Derived.Test.YtoaiblhlpdaeoaaPart3
import Derived.Test.YtoaiblhlpdaeoaaPart6
/- Package garside: Word; the contracts together. (Written by tools/gen_gword.py.) -/
namespace Go.Proofs.Ytoaiblhlpdaeoaa
set_option linter.unusedVariables false
set_option linter.unusedSimpArgs false
open Go.RowKit

theorem half_fault {n : Nat} (h1 : 2 ≤ n) (h6 : n ≤ 6) : bfault (n : Int) (halfW n) = 0 :=
  bfault_ok (by omega) (by omega) (by have := (half_len h1 h6).2.1; omega) fun x hx => by have := okB_half n x hx; omega
set_option maxRecDepth 100000 in
set_option maxHeartbeats 8000000 in
theorem gWord_any (m k : Int) (A : Option Addr) (l c : Nat) (xss : List (List Int)) (w : World) (ha : SLL w A l c xss) (hm : (Lit.int .i64 m).wf = true) (hkw : (Lit.int .i64 k).wf = true) :
    Calls Try.prog 19 #[.int .i64 m, .int .i64 k, .slice A l c] w (GivesLE w (wordE m k xss) (wordL m k xss)) := by
  have HCK := hide (gcheck_any m A l c xss w ha hm)
  have HA := hide ha
  have HWM := hide hm
  clear ha hm
  by_cases h0 : ffE m xss = 0
  case neg =>
    have HE : Hid (wordE m k xss = ffE m xss) := hide (by unfold wordE; rw [if_pos h0])
    have HV : Hid (wordL m k xss = []) := hide (by unfold wordL; rw [HE.out, if_neg h0])
    obtain ⟨f, hf⟩ : ∃ f, ffE m xss = f := ⟨_, rfl⟩
    have HF := hide hf
    rw [hf] at h0
    have hne : (f != 0) = true := by simpa using h0
    clear hf h0
    go_enter Try.func19, Try.ntmps19
    go_wp2_with fail
    refine HCK.out.mono ?_
    rintro e w1 ⟨rfl, hb⟩
    rw [HF.out]
    have HB := hide hb
    clear hb
    go_wp2_with fail
    go_ret2
    rw [HE.out, HV.out, HF.out]
    exact ⟨none, 0, 0, rfl, SL.nil_ _, HB.out⟩
  by_cases h30 : 30 < k.natAbs
  · have HE : Hid (wordE m k xss = 2) := hide (by unfold wordE; rw [if_neg (by simp [h0]), if_pos h30])
    have HV : Hid (wordL m k xss = []) := hide (by unfold wordL; rw [HE.out, if_neg (by decide)])
    have HF := hide h0
    have hkk : k < -30 ∨ 30 < k := by omega
    clear h0 h30
    rcases hkk with hk | hk
    · have hd1 : decide (k < -30) = true := decide_eq_true hk
      clear hk
      go_enter Try.func19, Try.ntmps19
      go_wp2_with fail
      refine HCK.out.mono ?_
      rintro e w1 ⟨rfl, hb⟩
      rw [HF.out]
      have HB := hide hb
      clear hb
      go_wp2_with fail
      go_ret2
      rw [HE.out, HV.out]
      exact ⟨none, 0, 0, rfl, SL.nil_ _, HB.out⟩
    · have hd1 : decide (k < -30) = false := decide_eq_false (by omega)
      have hd2 : decide ((30 : Int) < k) = true := decide_eq_true hk
      clear hk
      go_enter Try.func19, Try.ntmps19
      go_wp2_with fail
      refine HCK.out.mono ?_
      rintro e w1 ⟨rfl, hb⟩
      rw [HF.out]
      have HB := hide hb
      clear hb
      go_wp2_with fail
      go_ret2
      rw [HE.out, HV.out]
      exact ⟨none, 0, 0, rfl, SL.nil_ _, HB.out⟩
  obtain ⟨n, ps, rfl, h2, h6, rfl, hpl, hPL, _⟩ := ffE_ok h0
  have HE : Hid (wordE (n : Int) k (ps.map zs) = if 30 < (wriW n k ps).length then 2 else 0) := hide (by unfold wordE; rw [if_neg (by simp [h0]), if_neg h30, Int.toNat_natCast, nlL_zs])
  have HV : Hid (wordL (n : Int) k (ps.map zs) = if 30 < (wriW n k ps).length then [] else wriW n k ps) := hide (by
    unfold wordL
    rw [HE.out, Int.toNat_natCast, nlL_zs]
    split
    · rw [if_neg (by decide)]
    · rw [if_pos rfl])
  have HF := hide h0
  have HP := hide hPL
  have HL : Hid (ps.length = l) := hide (by have := HA.out.len; rwa [List.length_map] at this)
  have hl30 : l ≤ 30 := by rw [← HL.out]; exact hpl
  have hd1 : decide (k < -30) = false := decide_eq_false (by omega)
  have hd2 : decide ((30 : Int) < k) = false := decide_eq_false (by omega)
  obtain ⟨q1, q2, _⟩ := half_len h2 h6
  have HQ1 := hide q1
  have HQ2 := hide q2
  have HOK := hide (okB_half n)
  obtain ⟨i0, hi0, hz0, hz1, hz2⟩ := info_parts int_info
  have HI0 := hide hi0
  have HZ0 := hide hz0
  have HZ1 := hide hz1
  have HZ2 := hide hz2
  clear h0 hpl hPL q1 q2 hi0 hz0 hz1 hz2
  go_enter Try.func19, Try.ntmps19
  go_wp2_with fail
  refine HCK.out.mono ?_
  rintro e w0 ⟨rfl, hb⟩
  rw [HF.out]
  have HW := hide hb
  clear hb HCK
  go_wp2_with fail
  refine (ghalf_any n w0 (by omega)).mono ?_
  rintro e w1 ⟨F, fn, fc, rfl, ho, hb⟩
  have hfn : fn = n := by have := ho.len; rw [zs_length, (full_isP n).2] at this; exact this.symm
  subst hfn
  replace HW := hide (HW.out.trans (hb.mono HW.out.size))
  have HS := hide (gword_any F fn fc _ w1 ho.sl (full_isP fn).1 (full_isP fn).2 (by omega) h6)
  clear hb ho
  go_wp2_with fail
  refine HS.out.mono ?_
  rintro e w2 ⟨H, hn, hc, rfl, ho, hb⟩
  change OwnI w2 w1.heap.size H hn hc (halfW fn) at ho
  have hhn := ho.len
  replace HW := hide (HW.out.trans (hb.mono HW.out.size))
  have HH := hide ho.sl
  have HHN := hide hhn
  have hq1 := HQ1.out
  have hq2 := HQ2.out
  rw [hhn] at hq1 hq2
  clear hb ho hhn HS
  by_cases hneg : k < 0
  · obtain ⟨q, hq⟩ : ∃ q : Nat, k = -(q : Int) := ⟨k.natAbs, by omega⟩
    subst hq
    have hq30 : q ≤ 30 := by omega
    have hwq : IntKind.i64.wrap (- -(q : Int)) = (q : Int) := by rw [IntKind.wrap_i64]; omega
    have hmx : max (-(q : Int)) (- -(q : Int)) = (q : Int) := by omega
    have hmx2 : max (-(q : Int)) (q : Int) = (q : Int) := by omega
    have HPW : Hid (powW fn (-(q : Int)) = rep (invw (halfW fn)) q) := hide (by unfold powW; rw [if_pos hneg, show (-(q : Int)).natAbs = q by omega])
    have HBI := hide (binv_any (fn : Int) H hn hc _ w2 HH.out (wfI (by omega)))
    have hfz := half_fault h2 h6
    rw [hfz, show invB (fn : Int) (halfW fn) = invw (halfW fn) by unfold invB; rw [if_pos hfz]] at HBI
    clear hfz
    go_wp2_with fail
    refine HBI.out.mono ?_
    rintro e w3 ⟨D, dn, dc, rfl, hs, hb⟩
    have hdn : dn = hn := by have := hs.il.len; rw [invw_length, HHN.out] at this; exact this.symm
    subst hdn
    replace HW := hide (HW.out.trans (hb.mono HW.out.size))
    have HRP := hide (repeat_all D dn dc q _ w3 hs.il hq1 (by omega) (by have := Nat.mul_le_mul hq30 hq2; omega))
    rw [← HPW.out] at HRP
    clear hb hs HBI
    go_wp2_with ((with_reducible show wpList _ _ _ (Oper.mk _ (.call { callee := .builtin .max, args := _, argTypes := _ }) _ _ _ _ :: _) _ _); refine wpList_gives rfl (gives_maxI rfl rfl rfl (by first | exact hmx | exact hmx2)) ?_)
    refine HRP.out.mono ?_
    rintro e w4 ⟨R, rn, rc, rfl, ho, hb⟩
    have hrn : rn ≤ 450 := by
      have h1 := ho.len
      rw [HPW.out, rep_length] at h1
      have h3 := invw_length (halfW fn)
      rw [h3, HHN.out] at h1
      have := Nat.mul_le_mul hq30 hq2
      omega
    have HPL := hide ho.len
    have HO : Hid (OwnI w4 w.heap.size R rn rc (powW fn (-(q : Int)) ++ facW (ps.take 0))) := hide (by
      rw [List.take_zero, show facW [] = [] from rfl, List.append_nil]
      exact ho.mono HW.out.size)
    replace HW := hide (HW.out.trans (hb.mono HW.out.size))
    clear hb ho HRP HPW hwq HH HHN hq1 hq2 hmx hmx2 hneg
    go_wp2_with fail
    go_loopw [10, 44] (fun ov iv wr => ∃ (j : Nat) (D : Option Addr) (dn dc : Nat), j ≤ l ∧ iv = .int .i64 j ∧ ov = .slice D dn dc ∧ Hid (OwnI wr w.heap.size D dn dc (powW fn (-(q : Int)) ++ facW (ps.take j))) ∧ Hid (Below w.heap.size w wr)) (fun _ iv _ => l - (intOf iv).toNat)
    case atStart => exact ⟨0, R, rn, rc, Nat.zero_le _, rfl, rfl, HO, HW⟩
    case round =>
      clear HO HW
      obtain ⟨j, D, dn, dc, hj, rfl, rfl, HO, HB⟩ := hrel
      by_cases hjl : j < l
      · have hjp : j < ps.length := by rw [HL.out]; exact hjl
        obtain ⟨ad, B, bm, bd, rfl, hcl, hr⟩ := (HA.out.below HB.out).at_ hjl
        have hpm : ps.getD j [] ∈ ps := by rw [show ps.getD j [] = ps[j] by simp [List.getD, hjp]]; exact List.getElem_mem _
        obtain ⟨pp1, pp2⟩ := HP.out _ hpm
        rw [show (ps.map zs).getD j [] = zs (ps.getD j []) by simp [List.getD, hjp]] at hr
        have hbm : bm = fn := by have := hr.il.len; rw [zs_length, pp2] at this; exact this.symm
        subst hbm
        have HSP := hide (gword_any B bm bd _ wr hr pp1 pp2 (by omega) h6)
        have HFT := hide (facW_take hjp)
        have hdn : dn ≤ 2000 := by
          have h1 := HO.out.len
          rw [List.length_append, HPL.out] at h1
          have h3 := facW_len (n := bm) (l := ps.take j) (fun p hp => (HP.out p (List.mem_of_mem_take hp)).2) h6
          rw [List.length_take] at h3
          omega
        have hwl : (wrd (ps.getD j [])).length ≤ 36 := by
          have h1 := wrd_len (ps.getD j [])
          rw [pp2] at h1
          have := Nat.mul_le_mul h6 h6
          omega
        have HWL := hide hwl
        have HJL := hide hjl
        clear hjp hr hpm pp1 pp2 hwl
        generalize ps.getD j [] = p at *
        go_wp2_with fail
        refine HSP.out.mono ?_
        rintro e w5 ⟨S, sn, sc, rfl, ho, hb⟩
        have hsn : sn ≤ 36 := by have := ho.len; have := HWL.out; omega
        have HS5 := hide ho.il
        have hO5 := HO.out.below hb
        have HO5 := hide hO5
        have HB5 := hide (HB.out.trans (hb.mono HB.out.size))
        have hsz5 := HB5.out.size
        clear hb ho hO5 HSP hcl
        go_wp2_with (at_builtin; refine wpList_append_int _ rfl (.tmp 48) (.tmp 50) 22 rfl w.heap.size i0 Try.underlying22 HI0.out HZ0.out HZ1.out HZ2.out D dn dc _ rfl HO5.out S sn sc (wrd p) rfl HS5.out (by omega) hsz5 ?_; intro A9 c9 w9 happ)
        have ho := happ.own
        rw [List.append_assoc, ← HFT.out] at ho
        have HO9 := hide ho
        have hb9 : Below w.heap.size w w9 := HB5.out.grown happ.grown hsz5 (fun b hb => (HO5.out.lt b (by rw [ownBlock_len D dn (dn + sn) dc dc]; exact hb)).1)
        have HB9 := hide hb9
        clear ho hb9 happ
        have hjl := HJL.out
        go_wp2_with fail
        go_roundw
        case rel => exact ⟨j + 1, A9, dn + sn, c9, by omega, by go_num, rfl, HO9, HB9⟩
        case measure => simp [intOf]; omega
      · have hjl2 : j = l := by omega
        have HEW : Hid (OwnI wr w.heap.size D dn dc (wriW fn (-(q : Int)) ps)) := hide (by
          have h := HO.out
          rw [hjl2, List.take_of_length_le (by rw [HL.out]; exact Nat.le_refl _)] at h
          exact h)
        have HLN := hide HEW.out.len
        clear HO hjl2
        by_cases h31 : 30 < dn
        · have hdd : decide ((30 : Int) < (dn : Int)) = true := decide_eq_true (by omega)
          have HE2 := hide (HE.out.trans (if_pos (by rw [HLN.out]; exact h31)))
          have HV2 := hide (HV.out.trans (if_pos (by rw [HLN.out]; exact h31)))
          clear h31
          go_wp2_with fail
          go_ret2
          rw [HE2.out, HV2.out]
          exact ⟨none, 0, 0, rfl, SL.nil_ _, HB.out⟩
        · have hdd : decide ((30 : Int) < (dn : Int)) = false := decide_eq_false (by omega)
          have HE2 := hide (HE.out.trans (if_neg (by rw [HLN.out]; exact h31)))
          have HV2 := hide (HV.out.trans (if_neg (by rw [HLN.out]; exact h31)))
          clear h31
          go_wp2_with fail
          go_ret2
          rw [HE2.out, HV2.out]
          exact ⟨D, dn, dc, rfl, HEW.out.sl, HB.out⟩
  · obtain ⟨q, hq⟩ : ∃ q : Nat, k = (q : Int) := ⟨k.natAbs, by omega⟩
    subst hq
    have hq30 : q ≤ 30 := by omega
    have hwq : IntKind.i64.wrap (-(q : Int)) = -(q : Int) := by rw [IntKind.wrap_i64]; omega
    have hmx : max (q : Int) (-(q : Int)) = (q : Int) := by omega
    have hmx2 : True := trivial
    have HPW : Hid (powW fn (q : Int) = rep (halfW fn) q) := hide (by unfold powW; rw [if_neg hneg, Int.natAbs_natCast])
    have HRP := hide (repeat_all H hn hc q _ w2 HH.out.il hq1 (by omega) (by have := Nat.mul_le_mul hq30 hq2; omega))
    rw [← HPW.out] at HRP
    go_wp2_with ((with_reducible show wpList _ _ _ (Oper.mk _ (.call { callee := .builtin .max, args := _, argTypes := _ }) _ _ _ _ :: _) _ _); refine wpList_gives rfl (gives_maxI rfl rfl rfl (by first | exact hmx | exact hmx2)) ?_)
    refine HRP.out.mono ?_
    rintro e w4 ⟨R, rn, rc, rfl, ho, hb⟩
    have hrn : rn ≤ 450 := by
      have h1 := ho.len
      rw [HPW.out, rep_length] at h1
      rw [HHN.out] at h1
      have := Nat.mul_le_mul hq30 hq2
      omega
    have HPL := hide ho.len
    have HO : Hid (OwnI w4 w.heap.size R rn rc (powW fn (q : Int) ++ facW (ps.take 0))) := hide (by
      rw [List.take_zero, show facW [] = [] from rfl, List.append_nil]
      exact ho.mono HW.out.size)
    replace HW := hide (HW.out.trans (hb.mono HW.out.size))
    clear hb ho HRP HPW hwq HH HHN hq1 hq2 hmx hmx2 hneg
    go_wp2_with fail
    go_loopw [10, 44] (fun ov iv wr => ∃ (j : Nat) (D : Option Addr) (dn dc : Nat), j ≤ l ∧ iv = .int .i64 j ∧ ov = .slice D dn dc ∧ Hid (OwnI wr w.heap.size D dn dc (powW fn (q : Int) ++ facW (ps.take j))) ∧ Hid (Below w.heap.size w wr)) (fun _ iv _ => l - (intOf iv).toNat)
    case atStart => exact ⟨0, R, rn, rc, Nat.zero_le _, rfl, rfl, HO, HW⟩
    case round =>
      clear HO HW
      obtain ⟨j, D, dn, dc, hj, rfl, rfl, HO, HB⟩ := hrel
      by_cases hjl : j < l
      · have hjp : j < ps.length := by rw [HL.out]; exact hjl
        obtain ⟨ad, B, bm, bd, rfl, hcl, hr⟩ := (HA.out.below HB.out).at_ hjl
        have hpm : ps.getD j [] ∈ ps := by rw [show ps.getD j [] = ps[j] by simp [List.getD, hjp]]; exact List.getElem_mem _
        obtain ⟨pp1, pp2⟩ := HP.out _ hpm
        rw [show (ps.map zs).getD j [] = zs (ps.getD j []) by simp [List.getD, hjp]] at hr
        have hbm : bm = fn := by have := hr.il.len; rw [zs_length, pp2] at this; exact this.symm
        subst hbm
        have HSP := hide (gword_any B bm bd _ wr hr pp1 pp2 (by omega) h6)
        have HFT := hide (facW_take hjp)
        have hdn : dn ≤ 2000 := by
          have h1 := HO.out.len
          rw [List.length_append, HPL.out] at h1
          have h3 := facW_len (n := bm) (l := ps.take j) (fun p hp => (HP.out p (List.mem_of_mem_take hp)).2) h6
          rw [List.length_take] at h3
          omega
        have hwl : (wrd (ps.getD j [])).length ≤ 36 := by
          have h1 := wrd_len (ps.getD j [])
          rw [pp2] at h1
          have := Nat.mul_le_mul h6 h6
          omega
        have HWL := hide hwl
        have HJL := hide hjl
        clear hjp hr hpm pp1 pp2 hwl
        generalize ps.getD j [] = p at *
        go_wp2_with fail
        refine HSP.out.mono ?_
        rintro e w5 ⟨S, sn, sc, rfl, ho, hb⟩
        have hsn : sn ≤ 36 := by have := ho.len; have := HWL.out; omega
        have HS5 := hide ho.il
        have hO5 := HO.out.below hb
        have HO5 := hide hO5
        have HB5 := hide (HB.out.trans (hb.mono HB.out.size))
        have hsz5 := HB5.out.size
        clear hb ho hO5 HSP hcl
        go_wp2_with (at_builtin; refine wpList_append_int _ rfl (.tmp 48) (.tmp 50) 22 rfl w.heap.size i0 Try.underlying22 HI0.out HZ0.out HZ1.out HZ2.out D dn dc _ rfl HO5.out S sn sc (wrd p) rfl HS5.out (by omega) hsz5 ?_; intro A9 c9 w9 happ)
        have ho := happ.own
        rw [List.append_assoc, ← HFT.out] at ho
        have HO9 := hide ho
        have hb9 : Below w.heap.size w w9 := HB5.out.grown happ.grown hsz5 (fun b hb => (HO5.out.lt b (by rw [ownBlock_len D dn (dn + sn) dc dc]; exact hb)).1)
        have HB9 := hide hb9
        clear ho hb9 happ
        have hjl := HJL.out
        go_wp2_with fail
        go_roundw
        case rel => exact ⟨j + 1, A9, dn + sn, c9, by omega, by go_num, rfl, HO9, HB9⟩
        case measure => simp [intOf]; omega
      · have hjl2 : j = l := by omega
        have HEW : Hid (OwnI wr w.heap.size D dn dc (wriW fn (q : Int) ps)) := hide (by
          have h := HO.out
          rw [hjl2, List.take_of_length_le (by rw [HL.out]; exact Nat.le_refl _)] at h
          exact h)
        have HLN := hide HEW.out.len
        clear HO hjl2
        by_cases h31 : 30 < dn
        · have hdd : decide ((30 : Int) < (dn : Int)) = true := decide_eq_true (by omega)
          have HE2 := hide (HE.out.trans (if_pos (by rw [HLN.out]; exact h31)))
          have HV2 := hide (HV.out.trans (if_pos (by rw [HLN.out]; exact h31)))
          clear h31
          go_wp2_with fail
          go_ret2
          rw [HE2.out, HV2.out]
          exact ⟨none, 0, 0, rfl, SL.nil_ _, HB.out⟩
        · have hdd : decide ((30 : Int) < (dn : Int)) = false := decide_eq_false (by omega)
          have HE2 := hide (HE.out.trans (if_neg (by rw [HLN.out]; exact h31)))
          have HV2 := hide (HV.out.trans (if_neg (by rw [HLN.out]; exact h31)))
          clear h31
          go_wp2_with fail
          go_ret2
          rw [HE2.out, HV2.out]
          exact ⟨D, dn, dc, rfl, HEW.out.sl, HB.out⟩

theorem garC : GarC where
  normal := gnormal_any
  check := gcheck_any
  word := gWord_any
  equal := gequal_any
end Go.Proofs.Ytoaiblhlpdaeoaa
/- slices.EqualFunc for lists of lists that are the same: timblaw1.lists, timbkeep1.ArtinRelations. -/
namespace Go.Proofs.Ytoaiblhlpdaeoaa
set_option linter.unusedVariables false
set_option linter.unusedSimpArgs false
open Go.RowKit

theorem lists1_any (A B : Option Addr) (n m c d : Nat) (xs ys : List Int) (w : World) (ha : IL w A n xs) (hb : IL w B m ys) :
    Calls Try.prog 92 #[.slice A n c, .slice B m d] w fun e w' => e = .returned (.bool (eqB xs ys)) ∧ Below w.heap.size w w' := by
  have HC := hide (equal_any A B n m c d xs ys w ha hb)
  clear ha hb
  go_enter Try.func92, Try.ntmps92
  go_wp2_with fail
  refine HC.out.mono ?_
  rintro e w1 ⟨rfl, hb1⟩
  go_wp2
  go_ret
  exact ⟨rfl, hb1⟩

set_option maxHeartbeats 1000000 in
theorem equalFunc_yes (A B : Option Addr) (n m c d : Nat) (xss : List (List Int)) (w : World) (ha : ILL w A n xss) (hb : ILL w B m xss) :
    Calls Try.prog 30 #[.slice A n c, .slice B m d, .func (.func 92) #[] #[]] w fun e w' => e = .returned (.bool true) ∧ Below w.heap.size w w' := by
  have hnm : n = m := by rw [← ha.len, ← hb.len]
  subst hnm
  have hsm := ha.small
  go_enter Try.func30, Try.ntmps30
  go_wp2
  go_loopw [17] (fun i wr => ∃ k : Nat, k ≤ n ∧ i = .int .i64 k ∧ Below w.heap.size w wr) (fun i _ => n - (intOf i).toNat)
  case atStart => exact ⟨0, Nat.zero_le _, rfl, Below.refl _ _⟩
  case round =>
    obtain ⟨k, hk, rfl, hnx⟩ := hrel
    have ha' := ha.below hnx
    have hb' := hb.below hnx
    have HA := hide (And.intro ha hb)
    clear ha hb
    by_cases hlt : k < n
    · obtain ⟨ad, B8, m8, d8, rfl, hc8, hi8⟩ := ha'.at_ hlt
      obtain ⟨bd, B9, m9, d9, rfl, hc9, hi9⟩ := hb'.at_ hlt
      have HC := hide (lists1_any B8 B9 m8 m9 d8 d9 _ _ wr hi8 hi9)
      have HE : Hid (eqB (xss.getD k []) (xss.getD k []) = true) := eqB_true rfl
      rw [HE.out] at HC
      clear ha' hb' hi8 hi9
      go_wp2_with fail
      refine HC.out.mono ?_
      rintro e w2 ⟨rfl, hb2⟩
      have hb02 := hnx.trans (hb2.mono hnx.size)
      clear hb2
      go_wp2
      go_roundw
      case rel => exact ⟨k + 1, by omega, by go_num, hb02⟩
      case measure => simp [intOf]; omega
    · go_wp2
      go_ret
      exact ⟨rfl, hnx⟩

set_option maxHeartbeats 1000000 in
theorem lists_yes (A B : Option Addr) (n m c d : Nat) (xss : List (List Int)) (w : World) (ha : ILL w A n xss) (hb : ILL w B m xss) :
    Calls Try.prog 47 #[.slice A n c, .slice B m d] w fun e w' => e = .returned (.bool true) ∧ Below w.heap.size w w' := by
  have HC := hide (equalFunc_yes A B n m c d xss w ha hb)
  clear ha hb
  go_enter Try.func47, Try.ntmps47
  go_wp2_with fail
  refine HC.out.mono ?_
  rintro e w1 ⟨rfl, hb1⟩
  go_wp2
  go_ret
  exact ⟨rfl, hb1⟩
end Go.Proofs.Ytoaiblhlpdaeoaa
/- slices.EqualFunc for lists of lists that are the same: timbkeep1.forms, GarsideCenter; a fact about a normal form. -/
namespace Go.Proofs.Ytoaiblhlpdaeoaa
set_option linter.unusedVariables false
set_option linter.unusedSimpArgs false
open Go.RowKit Gar

theorem nf_m1 : NFw 3 [-1] (-1) [[2, 0, 1]] := by
  have hp : isP [2, 0, 1] := ⟨by decide, by decide⟩
  have hpl : PL 3 [[2, 0, 1]] := fun p h => by simp at h; subst h; exact ⟨hp, rfl⟩
  refine ⟨hpl, ⟨(elt_spec hp rfl).1, fun a ha => ?_, fun a ha => ?_⟩, ?_, fun h => by omega⟩
  · simp at ha
    subst ha
    rw [Ne, elt_one (n := 3) hp rfl]
    decide
  · simp at ha
    subst ha
    rw [Ne, elt_full (n := 3) hp rfl]
    decide
  · rw [← gp_wri (-1) hpl, show wriW 3 (-1) [[2, 0, 1]] = [-1, -2, -1, 1, 2] by decide +kernel]
    have h1 := gp_pair 3 (-1)
    have h2 := gp_pair 3 (-2)
    rw [show (- -1 : Int) = 1 from rfl] at h1
    rw [show (- -2 : Int) = 2 from rfl] at h2
    rw [gp_cons (-1) [-2, -1, 1, 2], gp_cons (-2) [-1, 1, 2], gp_cons (-1) [1, 2], gp_cons 1 [2], ← G_assoc (gp 3 [-1]) (gp 3 [1]), h1, G_one_mul, h2, G_mul_one]

set_option maxRecDepth 100000 in
set_option maxHeartbeats 2000000 in
theorem formed_l (F : GarC) (w : World) : Calls Try.prog 14 #[] w fun e w' => e = .returned (.bool true) ∧ Below w.heap.size w w' := by
  have HF := hide F
  clear F
  go_enter Try.func14, Try.ntmps14
  go_wp2_with fail
  have hl1 := SL.lit w [-1] (by decide) rfl rfl
  have hb0 := (Below.refl w.heap.size w).alloc (Nat.le_refl _) (.cells #[.int .i64 (-1)] 3)
  refine (HF.out.normal 3 _ 1 1 [-1] _ hl1 (by decide)).mono ?_
  rintro e w1 ⟨k, l, A, n, c, rfl, hs, hb, h1, _⟩
  have h0 : bfault 3 [-1] = 0 := by decide
  obtain ⟨rfl, rfl⟩ := (h1 h0).unique (by decide) nf_m1 rfl
  rw [h0]
  have hn := hs.len
  simp at hn
  subst hn
  have HS := hide hs
  have HB := hide (hb0.trans (hb.mono hb0.size))
  clear hl1 hb0 hs hb h1 h0
  go_wp2_with fail
  have hz : [[2, 0, 1]].map zs = [[2, 0, 1]] := by decide
  have HLIT := hide (SL.lit w1 [2, 0, 1] (by decide) (cs := #[.int .i64 2, .int .i64 0, .int .i64 1]) rfl (m := 3) rfl)
  have hal : Below w1.heap.size w1 (w1.alloc (.cells #[.int .i64 2, .int .i64 0, .int .i64 1] 3)) := (Below.refl _ _).alloc (Nat.le_refl _) _
  have hal2 : Below w1.heap.size w1 ((w1.alloc (.cells #[.int .i64 2, .int .i64 0, .int .i64 1] 3)).alloc (.cells #[.slice (some ⟨w1.heap.size, 0, none⟩) 3 3] 22)) := hal.alloc (by simp) _
  have hil := ILL.lit (w := w1.alloc (.cells #[.int .i64 2, .int .i64 0, .int .i64 1] 3)) (vs := [.slice (some ⟨w1.heap.size, 0, none⟩) 3 3]) (xss := [[2, 0, 1]]) rfl (by simp) (fun j hj => by
    match j, hj with
    | 0, _ => exact ⟨_, _, _, rfl, HLIT.out.il⟩) (cs := #[.slice (some ⟨w1.heap.size, 0, none⟩) 3 3]) rfl (m := 1) rfl
  rw [World.size_alloc] at hil
  have hs2 := (HS.out.below hal2).ill
  rw [hz] at hs2
  refine (lists_yes A _ 1 1 c 1 _ _ hs2 hil).mono ?_
  rintro e w3 ⟨rfl, hb3⟩
  have HB3 := hide (HB.out.trans ((hal2.trans (hb3.mono hal2.size)).mono HB.out.size))
  clear hb3 hal hal2 hil hs2 HLIT
  go_wp2_with fail
  go_ret
  exact ⟨rfl, HB3.out⟩

end Go.Proofs.Ytoaiblhlpdaeoaa
