/- Several texts in one. -/
import Derived.Test.YtoaiblhlpdaeoaaPart9
import Derived.Test.YtoaiblhlpdaeoaaPart3
import Derived.Test.YtoaiblhlpdaeoaaPart1
import Derived.Test.YtoaiblhlpdaeoaaPart5
import Derived.Test.YtoaiblhlpdaeoaaBase1
import Derived.Test.YtoaiblhlpdaeoaaPart2
import Derived.Test.YtoaiblhlpdaeoaaPart6
/- Package garside: Word; the contracts together. (Written by tools/gen_gword.py.) -/
namespace Go.Proofs.Ytoaiblhlpdaeoaa
set_option linter.unusedVariables false
set_option linter.unusedSimpArgs false
open Go.RowKit

theorem half_fault {n : Nat} (h1 : 2 ≤ n) (h6 : n ≤ 6) : bfault (n : Int) (halfW n) = 0 :=
  bfault_ok (by omega) (by omega) (by have := (half_len h1 h6).2.1; omega) fun x hx => by have := okB_half n x hx; omega
set_option maxRecDepth 100000 in
set_option maxHeartbeats 8000000 in
theorem gWord_any (m k : Int) (A : Option Addr) (l c : Nat) (xss : List (List Int)) (w : World) (ha : SLL w A l c xss) (hm : (Lit.int .i64 m).wf = true) (hkw : (Lit.int .i64 k).wf = true) :
    Calls Try.prog 19 #[.int .i64 m, .int .i64 k, .slice A l c] w (GivesLE w (wordE m k xss) (wordL m k xss)) := by
  have HCK := hide (gcheck_any m A l c xss w ha hm)
  have HA := hide ha
  have HWM := hide hm
  clear ha hm
  by_cases h0 : ffE m xss = 0
  case neg =>
    have HE : Hid (wordE m k xss = ffE m xss) := hide (by unfold wordE; rw [if_pos h0])
    have HV : Hid (wordL m k xss = []) := hide (by unfold wordL; rw [HE.out, if_neg h0])
    obtain ⟨f, hf⟩ : ∃ f, ffE m xss = f := ⟨_, rfl⟩
    have HF := hide hf
    rw [hf] at h0
    have hne : (f != 0) = true := by simpa using h0
    clear hf h0
    go_enter Try.func19, Try.ntmps19
    go_wp2_with fail
    refine HCK.out.mono ?_
    rintro e w1 ⟨rfl, hb⟩
    rw [HF.out]
    have HB := hide hb
    clear hb
    go_wp2_with fail
    go_ret2
    rw [HE.out, HV.out, HF.out]
    exact ⟨none, 0, 0, rfl, SL.nil_ _, HB.out⟩
  by_cases h30 : 30 < k.natAbs
  · have HE : Hid (wordE m k xss = 2) := hide (by unfold wordE; rw [if_neg (by simp [h0]), if_pos h30])
    have HV : Hid (wordL m k xss = []) := hide (by unfold wordL; rw [HE.out, if_neg (by decide)])
    have HF := hide h0
    have hkk : k < -30 ∨ 30 < k := by omega
    clear h0 h30
    rcases hkk with hk | hk
    · have hd1 : decide (k < -30) = true := decide_eq_true hk
      clear hk
      go_enter Try.func19, Try.ntmps19
      go_wp2_with fail
      refine HCK.out.mono ?_
      rintro e w1 ⟨rfl, hb⟩
      rw [HF.out]
      have HB := hide hb
      clear hb
      go_wp2_with fail
      go_ret2
      rw [HE.out, HV.out]
      exact ⟨none, 0, 0, rfl, SL.nil_ _, HB.out⟩
    · have hd1 : decide (k < -30) = false := decide_eq_false (by omega)
      have hd2 : decide ((30 : Int) < k) = true := decide_eq_true hk
      clear hk
      go_enter Try.func19, Try.ntmps19
      go_wp2_with fail
      refine HCK.out.mono ?_
      rintro e w1 ⟨rfl, hb⟩
      rw [HF.out]
      have HB := hide hb
      clear hb
      go_wp2_with fail
      go_ret2
      rw [HE.out, HV.out]
      exact ⟨none, 0, 0, rfl, SL.nil_ _, HB.out⟩
  obtain ⟨n, ps, rfl, h2, h6, rfl, hpl, hPL, _⟩ := ffE_ok h0
  have HE : Hid (wordE (n : Int) k (ps.map zs) = if 30 < (wriW n k ps).length then 2 else 0) := hide (by unfold wordE; rw [if_neg (by simp [h0]), if_neg h30, Int.toNat_natCast, nlL_zs])
  have HV : Hid (wordL (n : Int) k (ps.map zs) = if 30 < (wriW n k ps).length then [] else wriW n k ps) := hide (by
    unfold wordL
    rw [HE.out, Int.toNat_natCast, nlL_zs]
    split
    · rw [if_neg (by decide)]
    · rw [if_pos rfl])
  have HF := hide h0
  have HP := hide hPL
  have HL : Hid (ps.length = l) := hide (by have := HA.out.len; rwa [List.length_map] at this)
  have hl30 : l ≤ 30 := by rw [← HL.out]; exact hpl
  have hd1 : decide (k < -30) = false := decide_eq_false (by omega)
  have hd2 : decide ((30 : Int) < k) = false := decide_eq_false (by omega)
  obtain ⟨q1, q2, _⟩ := half_len h2 h6
  have HQ1 := hide q1
  have HQ2 := hide q2
  have HOK := hide (okB_half n)
  obtain ⟨i0, hi0, hz0, hz1, hz2⟩ := info_parts int_info
  have HI0 := hide hi0
  have HZ0 := hide hz0
  have HZ1 := hide hz1
  have HZ2 := hide hz2
  clear h0 hpl hPL q1 q2 hi0 hz0 hz1 hz2
  go_enter Try.func19, Try.ntmps19
  go_wp2_with fail
  refine HCK.out.mono ?_
  rintro e w0 ⟨rfl, hb⟩
  rw [HF.out]
  have HW := hide hb
  clear hb HCK
  go_wp2_with fail
  refine (ghalf_any n w0 (by omega)).mono ?_
  rintro e w1 ⟨F, fn, fc, rfl, ho, hb⟩
  have hfn : fn = n := by have := ho.len; rw [zs_length, (full_isP n).2] at this; exact this.symm
  subst hfn
  replace HW := hide (HW.out.trans (hb.mono HW.out.size))
  have HS := hide (gword_any F fn fc _ w1 ho.sl (full_isP fn).1 (full_isP fn).2 (by omega) h6)
  clear hb ho
  go_wp2_with fail
  refine HS.out.mono ?_
  rintro e w2 ⟨H, hn, hc, rfl, ho, hb⟩
  change OwnI w2 w1.heap.size H hn hc (halfW fn) at ho
  have hhn := ho.len
  replace HW := hide (HW.out.trans (hb.mono HW.out.size))
  have HH := hide ho.sl
  have HHN := hide hhn
  have hq1 := HQ1.out
  have hq2 := HQ2.out
  rw [hhn] at hq1 hq2
  clear hb ho hhn HS
  by_cases hneg : k < 0
  · obtain ⟨q, hq⟩ : ∃ q : Nat, k = -(q : Int) := ⟨k.natAbs, by omega⟩
    subst hq
    have hq30 : q ≤ 30 := by omega
    have hwq : IntKind.i64.wrap (- -(q : Int)) = (q : Int) := by rw [IntKind.wrap_i64]; omega
    have hmx : max (-(q : Int)) (- -(q : Int)) = (q : Int) := by omega
    have hmx2 : max (-(q : Int)) (q : Int) = (q : Int) := by omega
    have HPW : Hid (powW fn (-(q : Int)) = rep (invw (halfW fn)) q) := hide (by unfold powW; rw [if_pos hneg, show (-(q : Int)).natAbs = q by omega])
    have HBI := hide (binv_any (fn : Int) H hn hc _ w2 HH.out (wfI (by omega)))
    have hfz := half_fault h2 h6
    rw [hfz, show invB (fn : Int) (halfW fn) = invw (halfW fn) by unfold invB; rw [if_pos hfz]] at HBI
    clear hfz
    go_wp2_with fail
    refine HBI.out.mono ?_
    rintro e w3 ⟨D, dn, dc, rfl, hs, hb⟩
    have hdn : dn = hn := by have := hs.il.len; rw [invw_length, HHN.out] at this; exact this.symm
    subst hdn
    replace HW := hide (HW.out.trans (hb.mono HW.out.size))
    have HRP := hide (repeat_all D dn dc q _ w3 hs.il hq1 (by omega) (by have := Nat.mul_le_mul hq30 hq2; omega))
    rw [← HPW.out] at HRP
    clear hb hs HBI
    go_wp2_with ((with_reducible show wpList _ _ _ (Oper.mk _ (.call { callee := .builtin .max, args := _, argTypes := _ }) _ _ _ _ :: _) _ _); refine wpList_gives rfl (gives_maxI rfl rfl rfl (by first | exact hmx | exact hmx2)) ?_)
    refine HRP.out.mono ?_
    rintro e w4 ⟨R, rn, rc, rfl, ho, hb⟩
    have hrn : rn ≤ 450 := by
      have h1 := ho.len
      rw [HPW.out, rep_length] at h1
      have h3 := invw_length (halfW fn)
      rw [h3, HHN.out] at h1
      have := Nat.mul_le_mul hq30 hq2
      omega
    have HPL := hide ho.len
    have HO : Hid (OwnI w4 w.heap.size R rn rc (powW fn (-(q : Int)) ++ facW (ps.take 0))) := hide (by
      rw [List.take_zero, show facW [] = [] from rfl, List.append_nil]
      exact ho.mono HW.out.size)
    replace HW := hide (HW.out.trans (hb.mono HW.out.size))
    clear hb ho HRP HPW hwq HH HHN hq1 hq2 hmx hmx2 hneg
    go_wp2_with fail
    go_loopw [10, 44] (fun ov iv wr => ∃ (j : Nat) (D : Option Addr) (dn dc : Nat), j ≤ l ∧ iv = .int .i64 j ∧ ov = .slice D dn dc ∧ Hid (OwnI wr w.heap.size D dn dc (powW fn (-(q : Int)) ++ facW (ps.take j))) ∧ Hid (Below w.heap.size w wr)) (fun _ iv _ => l - (intOf iv).toNat)
    case atStart => exact ⟨0, R, rn, rc, Nat.zero_le _, rfl, rfl, HO, HW⟩
    case round =>
      clear HO HW
      obtain ⟨j, D, dn, dc, hj, rfl, rfl, HO, HB⟩ := hrel
      by_cases hjl : j < l
      · have hjp : j < ps.length := by rw [HL.out]; exact hjl
        obtain ⟨ad, B, bm, bd, rfl, hcl, hr⟩ := (HA.out.below HB.out).at_ hjl
        have hpm : ps.getD j [] ∈ ps := by rw [show ps.getD j [] = ps[j] by simp [List.getD, hjp]]; exact List.getElem_mem _
        obtain ⟨pp1, pp2⟩ := HP.out _ hpm
        rw [show (ps.map zs).getD j [] = zs (ps.getD j []) by simp [List.getD, hjp]] at hr
        have hbm : bm = fn := by have := hr.il.len; rw [zs_length, pp2] at this; exact this.symm
        subst hbm
        have HSP := hide (gword_any B bm bd _ wr hr pp1 pp2 (by omega) h6)
        have HFT := hide (facW_take hjp)
        have hdn : dn ≤ 2000 := by
          have h1 := HO.out.len
          rw [List.length_append, HPL.out] at h1
          have h3 := facW_len (n := bm) (l := ps.take j) (fun p hp => (HP.out p (List.mem_of_mem_take hp)).2) h6
          rw [List.length_take] at h3
          omega
        have hwl : (wrd (ps.getD j [])).length ≤ 36 := by
          have h1 := wrd_len (ps.getD j [])
          rw [pp2] at h1
          have := Nat.mul_le_mul h6 h6
          omega
        have HWL := hide hwl
        have HJL := hide hjl
        clear hjp hr hpm pp1 pp2 hwl
        generalize ps.getD j [] = p at *
        go_wp2_with fail
        refine HSP.out.mono ?_
        rintro e w5 ⟨S, sn, sc, rfl, ho, hb⟩
        have hsn : sn ≤ 36 := by have := ho.len; have := HWL.out; omega
        have HS5 := hide ho.il
        have hO5 := HO.out.below hb
        have HO5 := hide hO5
        have HB5 := hide (HB.out.trans (hb.mono HB.out.size))
        have hsz5 := HB5.out.size
        clear hb ho hO5 HSP hcl
        go_wp2_with (at_builtin; refine wpList_append_int _ rfl (.tmp 48) (.tmp 50) 22 rfl w.heap.size i0 Try.underlying22 HI0.out HZ0.out HZ1.out HZ2.out D dn dc _ rfl HO5.out S sn sc (wrd p) rfl HS5.out (by omega) hsz5 ?_; intro A9 c9 w9 happ)
        have ho := happ.own
        rw [List.append_assoc, ← HFT.out] at ho
        have HO9 := hide ho
        have hb9 : Below w.heap.size w w9 := HB5.out.grown happ.grown hsz5 (fun b hb => (HO5.out.lt b (by rw [ownBlock_len D dn (dn + sn) dc dc]; exact hb)).1)
        have HB9 := hide hb9
        clear ho hb9 happ
        have hjl := HJL.out
        go_wp2_with fail
        go_roundw
        case rel => exact ⟨j + 1, A9, dn + sn, c9, by omega, by go_num, rfl, HO9, HB9⟩
        case measure => simp [intOf]; omega
      · have hjl2 : j = l := by omega
        have HEW : Hid (OwnI wr w.heap.size D dn dc (wriW fn (-(q : Int)) ps)) := hide (by
          have h := HO.out
          rw [hjl2, List.take_of_length_le (by rw [HL.out]; exact Nat.le_refl _)] at h
          exact h)
        have HLN := hide HEW.out.len
        clear HO hjl2
        by_cases h31 : 30 < dn
        · have hdd : decide ((30 : Int) < (dn : Int)) = true := decide_eq_true (by omega)
          have HE2 := hide (HE.out.trans (if_pos (by rw [HLN.out]; exact h31)))
          have HV2 := hide (HV.out.trans (if_pos (by rw [HLN.out]; exact h31)))
          clear h31
          go_wp2_with fail
          go_ret2
          rw [HE2.out, HV2.out]
          exact ⟨none, 0, 0, rfl, SL.nil_ _, HB.out⟩
        · have hdd : decide ((30 : Int) < (dn : Int)) = false := decide_eq_false (by omega)
          have HE2 := hide (HE.out.trans (if_neg (by rw [HLN.out]; exact h31)))
          have HV2 := hide (HV.out.trans (if_neg (by rw [HLN.out]; exact h31)))
          clear h31
          go_wp2_with fail
          go_ret2
          rw [HE2.out, HV2.out]
          exact ⟨D, dn, dc, rfl, HEW.out.sl, HB.out⟩
  · obtain ⟨q, hq⟩ : ∃ q : Nat, k = (q : Int) := ⟨k.natAbs, by omega⟩
    subst hq
    have hq30 : q ≤ 30 := by omega
    have hwq : IntKind.i64.wrap (-(q : Int)) = -(q : Int) := by rw [IntKind.wrap_i64]; omega
    have hmx : max (q : Int) (-(q : Int)) = (q : Int) := by omega
    have hmx2 : True := trivial
    have HPW : Hid (powW fn (q : Int) = rep (halfW fn) q) := hide (by unfold powW; rw [if_neg hneg, Int.natAbs_natCast])
    have HRP := hide (repeat_all H hn hc q _ w2 HH.out.il hq1 (by omega) (by have := Nat.mul_le_mul hq30 hq2; omega))
    rw [← HPW.out] at HRP
    go_wp2_with ((with_reducible show wpList _ _ _ (Oper.mk _ (.call { callee := .builtin .max, args := _, argTypes := _ }) _ _ _ _ :: _) _ _); refine wpList_gives rfl (gives_maxI rfl rfl rfl (by first | exact hmx | exact hmx2)) ?_)
    refine HRP.out.mono ?_
    rintro e w4 ⟨R, rn, rc, rfl, ho, hb⟩
    have hrn : rn ≤ 450 := by
      have h1 := ho.len
      rw [HPW.out, rep_length] at h1
      rw [HHN.out] at h1
      have := Nat.mul_le_mul hq30 hq2
      omega
    have HPL := hide ho.len
    have HO : Hid (OwnI w4 w.heap.size R rn rc (powW fn (q : Int) ++ facW (ps.take 0))) := hide (by
      rw [List.take_zero, show facW [] = [] from rfl, List.append_nil]
      exact ho.mono HW.out.size)
    replace HW := hide (HW.out.trans (hb.mono HW.out.size))
    clear hb ho HRP HPW hwq HH HHN hq1 hq2 hmx hmx2 hneg
    go_wp2_with fail
    go_loopw [10, 44] (fun ov iv wr => ∃ (j : Nat) (D : Option Addr) (dn dc : Nat), j ≤ l ∧ iv = .int .i64 j ∧ ov = .slice D dn dc ∧ Hid (OwnI wr w.heap.size D dn dc (powW fn (q : Int) ++ facW (ps.take j))) ∧ Hid (Below w.heap.size w wr)) (fun _ iv _ => l - (intOf iv).toNat)
    case atStart => exact ⟨0, R, rn, rc, Nat.zero_le _, rfl, rfl, HO, HW⟩
    case round =>
      clear HO HW
      obtain ⟨j, D, dn, dc, hj, rfl, rfl, HO, HB⟩ := hrel
      by_cases hjl : j < l
      · have hjp : j < ps.length := by rw [HL.out]; exact hjl
        obtain ⟨ad, B, bm, bd, rfl, hcl, hr⟩ := (HA.out.below HB.out).at_ hjl
        have hpm : ps.getD j [] ∈ ps := by rw [show ps.getD j [] = ps[j] by simp [List.getD, hjp]]; exact List.getElem_mem _
        obtain ⟨pp1, pp2⟩ := HP.out _ hpm
        rw [show (ps.map zs).getD j [] = zs (ps.getD j []) by simp [List.getD, hjp]] at hr
        have hbm : bm = fn := by have := hr.il.len; rw [zs_length, pp2] at this; exact this.symm
        subst hbm
        have HSP := hide (gword_any B bm bd _ wr hr pp1 pp2 (by omega) h6)
        have HFT := hide (facW_take hjp)
        have hdn : dn ≤ 2000 := by
          have h1 := HO.out.len
          rw [List.length_append, HPL.out] at h1
          have h3 := facW_len (n := bm) (l := ps.take j) (fun p hp => (HP.out p (List.mem_of_mem_take hp)).2) h6
          rw [List.length_take] at h3
          omega
        have hwl : (wrd (ps.getD j [])).length ≤ 36 := by
          have h1 := wrd_len (ps.getD j [])
          rw [pp2] at h1
          have := Nat.mul_le_mul h6 h6
          omega
        have HWL := hide hwl
        have HJL := hide hjl
        clear hjp hr hpm pp1 pp2 hwl
        generalize ps.getD j [] = p at *
        go_wp2_with fail
        refine HSP.out.mono ?_
        rintro e w5 ⟨S, sn, sc, rfl, ho, hb⟩
        have hsn : sn ≤ 36 := by have := ho.len; have := HWL.out; omega
        have HS5 := hide ho.il
        have hO5 := HO.out.below hb
        have HO5 := hide hO5
        have HB5 := hide (HB.out.trans (hb.mono HB.out.size))
        have hsz5 := HB5.out.size
        clear hb ho hO5 HSP hcl
        go_wp2_with (at_builtin; refine wpList_append_int _ rfl (.tmp 48) (.tmp 50) 22 rfl w.heap.size i0 Try.underlying22 HI0.out HZ0.out HZ1.out HZ2.out D dn dc _ rfl HO5.out S sn sc (wrd p) rfl HS5.out (by omega) hsz5 ?_; intro A9 c9 w9 happ)
        have ho := happ.own
        rw [List.append_assoc, ← HFT.out] at ho
        have HO9 := hide ho
        have hb9 : Below w.heap.size w w9 := HB5.out.grown happ.grown hsz5 (fun b hb => (HO5.out.lt b (by rw [ownBlock_len D dn (dn + sn) dc dc]; exact hb)).1)
        have HB9 := hide hb9
        clear ho hb9 happ
        have hjl := HJL.out
        go_wp2_with fail
        go_roundw
        case rel => exact ⟨j + 1, A9, dn + sn, c9, by omega, by go_num, rfl, HO9, HB9⟩
        case measure => simp [intOf]; omega
      · have hjl2 : j = l := by omega
        have HEW : Hid (OwnI wr w.heap.size D dn dc (wriW fn (q : Int) ps)) := hide (by
          have h := HO.out
          rw [hjl2, List.take_of_length_le (by rw [HL.out]; exact Nat.le_refl _)] at h
          exact h)
        have HLN := hide HEW.out.len
        clear HO hjl2
        by_cases h31 : 30 < dn
        · have hdd : decide ((30 : Int) < (dn : Int)) = true := decide_eq_true (by omega)
          have HE2 := hide (HE.out.trans (if_pos (by rw [HLN.out]; exact h31)))
          have HV2 := hide (HV.out.trans (if_pos (by rw [HLN.out]; exact h31)))
          clear h31
          go_wp2_with fail
          go_ret2
          rw [HE2.out, HV2.out]
          exact ⟨none, 0, 0, rfl, SL.nil_ _, HB.out⟩
        · have hdd : decide ((30 : Int) < (dn : Int)) = false := decide_eq_false (by omega)
          have HE2 := hide (HE.out.trans (if_neg (by rw [HLN.out]; exact h31)))
          have HV2 := hide (HV.out.trans (if_neg (by rw [HLN.out]; exact h31)))
          clear h31
          go_wp2_with fail
          go_ret2
          rw [HE2.out, HV2.out]
          exact ⟨D, dn, dc, rfl, HEW.out.sl, HB.out⟩

theorem garC : GarC where
  normal := gnormal_any
  check := gcheck_any
  word := gWord_any
  equal := gequal_any
end Go.Proofs.Ytoaiblhlpdaeoaa
/- slices.EqualFunc for lists of lists that are the same: timbkeep1.forms, GarsideCenter; a fact about a normal form. -/
namespace Go.Proofs.Ytoaiblhlpdaeoaa
set_option linter.unusedVariables false
set_option linter.unusedSimpArgs false
open Go.RowKit Gar

theorem form1_any (A B : Option Addr) (n m c d : Nat) (xs ys : List Int) (w : World) (ha : IL w A n xs) (hb : IL w B m ys) :
    Calls Try.prog 67 #[.slice A n c, .slice B m d] w fun e w' => e = .returned (.bool (eqB xs ys)) ∧ Below w.heap.size w w' := by
  have HC := hide (equal_any A B n m c d xs ys w ha hb)
  clear ha hb
  go_enter Try.func67, Try.ntmps67
  go_wp2_with fail
  refine HC.out.mono ?_
  rintro e w1 ⟨rfl, hb1⟩
  go_wp2
  go_ret
  exact ⟨rfl, hb1⟩

set_option maxHeartbeats 1000000 in
theorem formFunc_yes (A B : Option Addr) (n m c d : Nat) (xss : List (List Int)) (w : World) (ha : ILL w A n xss) (hb : ILL w B m xss) :
    Calls Try.prog 30 #[.slice A n c, .slice B m d, .func (.func 67) #[] #[]] w fun e w' => e = .returned (.bool true) ∧ Below w.heap.size w w' := by
  have hnm : n = m := by rw [← ha.len, ← hb.len]
  subst hnm
  have hsm := ha.small
  go_enter Try.func30, Try.ntmps30
  go_wp2
  go_loopw [17] (fun i wr => ∃ k : Nat, k ≤ n ∧ i = .int .i64 k ∧ Below w.heap.size w wr) (fun i _ => n - (intOf i).toNat)
  case atStart => exact ⟨0, Nat.zero_le _, rfl, Below.refl _ _⟩
  case round =>
    obtain ⟨k, hk, rfl, hnx⟩ := hrel
    have ha' := ha.below hnx
    have hb' := hb.below hnx
    have HA := hide (And.intro ha hb)
    clear ha hb
    by_cases hlt : k < n
    · obtain ⟨ad, B8, m8, d8, rfl, hc8, hi8⟩ := ha'.at_ hlt
      obtain ⟨bd, B9, m9, d9, rfl, hc9, hi9⟩ := hb'.at_ hlt
      have HC := hide (form1_any B8 B9 m8 m9 d8 d9 _ _ wr hi8 hi9)
      have HE : Hid (eqB (xss.getD k []) (xss.getD k []) = true) := eqB_true rfl
      rw [HE.out] at HC
      clear ha' hb' hi8 hi9
      go_wp2_with fail
      refine HC.out.mono ?_
      rintro e w2 ⟨rfl, hb2⟩
      have hb02 := hnx.trans (hb2.mono hnx.size)
      clear hb2
      go_wp2
      go_roundw
      case rel => exact ⟨k + 1, by omega, by go_num, hb02⟩
      case measure => simp [intOf]; omega
    · go_wp2
      go_ret
      exact ⟨rfl, hnx⟩


theorem gcen1_any (A B : Option Addr) (n m c d : Nat) (xs ys : List Int) (w : World) (ha : IL w A n xs) (hb : IL w B m ys) :
    Calls Try.prog 31 #[.slice A n c, .slice B m d] w fun e w' => e = .returned (.bool (eqB xs ys)) ∧ Below w.heap.size w w' := by
  have HC := hide (equal_any A B n m c d xs ys w ha hb)
  clear ha hb
  go_enter Try.func31, Try.ntmps31
  go_wp2_with fail
  refine HC.out.mono ?_
  rintro e w1 ⟨rfl, hb1⟩
  go_wp2
  go_ret
  exact ⟨rfl, hb1⟩

set_option maxHeartbeats 1000000 in
theorem gcenFunc_yes (A B : Option Addr) (n m c d : Nat) (xss : List (List Int)) (w : World) (ha : ILL w A n xss) (hb : ILL w B m xss) :
    Calls Try.prog 30 #[.slice A n c, .slice B m d, .func (.func 31) #[] #[]] w fun e w' => e = .returned (.bool true) ∧ Below w.heap.size w w' := by
  have hnm : n = m := by rw [← ha.len, ← hb.len]
  subst hnm
  have hsm := ha.small
  go_enter Try.func30, Try.ntmps30
  go_wp2
  go_loopw [17] (fun i wr => ∃ k : Nat, k ≤ n ∧ i = .int .i64 k ∧ Below w.heap.size w wr) (fun i _ => n - (intOf i).toNat)
  case atStart => exact ⟨0, Nat.zero_le _, rfl, Below.refl _ _⟩
  case round =>
    obtain ⟨k, hk, rfl, hnx⟩ := hrel
    have ha' := ha.below hnx
    have hb' := hb.below hnx
    have HA := hide (And.intro ha hb)
    clear ha hb
    by_cases hlt : k < n
    · obtain ⟨ad, B8, m8, d8, rfl, hc8, hi8⟩ := ha'.at_ hlt
      obtain ⟨bd, B9, m9, d9, rfl, hc9, hi9⟩ := hb'.at_ hlt
      have HC := hide (gcen1_any B8 B9 m8 m9 d8 d9 _ _ wr hi8 hi9)
      have HE : Hid (eqB (xss.getD k []) (xss.getD k []) = true) := eqB_true rfl
      rw [HE.out] at HC
      clear ha' hb' hi8 hi9
      go_wp2_with fail
      refine HC.out.mono ?_
      rintro e w2 ⟨rfl, hb2⟩
      have hb02 := hnx.trans (hb2.mono hnx.size)
      clear hb2
      go_wp2
      go_roundw
      case rel => exact ⟨k + 1, by omega, by go_num, hb02⟩
      case measure => simp [intOf]; omega
    · go_wp2
      go_ret
      exact ⟨rfl, hnx⟩


theorem nf_m1 : NFw 3 [-1] (-1) [[2, 0, 1]] := by
  have hp : isP [2, 0, 1] := ⟨by decide, by decide⟩
  have hpl : PL 3 [[2, 0, 1]] := fun p h => by simp at h; subst h; exact ⟨hp, rfl⟩
  refine ⟨hpl, ⟨(elt_spec hp rfl).1, fun a ha => ?_, fun a ha => ?_⟩, ?_, fun h => by omega⟩
  · simp at ha
    subst ha
    rw [Ne, elt_one (n := 3) hp rfl]
    decide
  · simp at ha
    subst ha
    rw [Ne, elt_full (n := 3) hp rfl]
    decide
  · rw [← gp_wri (-1) hpl, show wriW 3 (-1) [[2, 0, 1]] = [-1, -2, -1, 1, 2] by decide +kernel]
    have h1 := gp_pair 3 (-1)
    have h2 := gp_pair 3 (-2)
    rw [show (- -1 : Int) = 1 from rfl] at h1
    rw [show (- -2 : Int) = 2 from rfl] at h2
    rw [gp_cons (-1) [-2, -1, 1, 2], gp_cons (-2) [-1, 1, 2], gp_cons (-1) [1, 2], gp_cons 1 [2], ← G_assoc (gp 3 [-1]) (gp 3 [1]), h1, G_one_mul, h2, G_mul_one]

set_option maxRecDepth 100000 in
set_option maxHeartbeats 2000000 in
theorem formed_k (F : GarC) (w : World) : Calls Try.prog 26 #[] w fun e w' => e = .returned (.bool true) ∧ Below w.heap.size w w' := by
  have HF := hide F
  clear F
  go_enter Try.func26, Try.ntmps26
  go_wp2_with fail
  have hl1 := SL.lit w [-1] (by decide) rfl rfl
  have hb0 := (Below.refl w.heap.size w).alloc (Nat.le_refl _) (.cells #[.int .i64 (-1)] 3)
  refine (HF.out.normal 3 _ 1 1 [-1] _ hl1 (by decide)).mono ?_
  rintro e w1 ⟨k, l, A, n, c, rfl, hs, hb, h1, _⟩
  have h0 : bfault 3 [-1] = 0 := by decide
  obtain ⟨rfl, rfl⟩ := (h1 h0).unique (by decide) nf_m1 rfl
  rw [h0]
  have hn := hs.len
  simp at hn
  subst hn
  obtain ⟨ad, B, m, d, rfl, hcl, hr⟩ := hs.at_ (k := 0) (by omega)
  have hz : ([[2, 0, 1]].map zs).getD 0 [] = [2, 0, 1] := by decide
  rw [hz] at hr
  have e0 : ad.add 0 = ad := by unfold Addr.add; simp
  rw [e0] at hcl
  have hm := hr.il.len
  simp at hm
  subst hm
  have HS := hide hr
  have HB := hide (hb0.trans (hb.mono hb0.size))
  have hblk := cell_lt hcl
  have hal : Below w1.heap.size w1 (w1.alloc (.cells #[.int .i64 2, .int .i64 0, .int .i64 1] 3)) := (Below.refl _ _).alloc (Nat.le_refl _) _
  have HLIT := hide (SL.lit w1 [2, 0, 1] (by decide) (cs := #[.int .i64 2, .int .i64 0, .int .i64 1]) rfl (m := 3) rfl)
  have HAL := hide hal
  clear hl1 hb0 hs hb h1 h0 hr hal
  go_wp2_with fail
  refine (equal_any B _ 3 3 d 3 _ _ _ (HS.out.below HAL.out).il HLIT.out.il).mono ?_
  rintro e w3 ⟨rfl, hb3⟩
  rw [eqB_true rfl]
  have HB3 := hide (HB.out.trans ((HAL.out.trans (hb3.mono HAL.out.size)).mono HB.out.size))
  clear hb3
  go_wp2_with fail
  go_ret
  exact ⟨rfl, HB3.out⟩

/-- Normal forms of words that are equal in the group. -/
def GivesForms (w : World) (e : Ending) (w' : World) : Prop := e = .returned (.bool true) ∧ Below w.heap.size w w'
set_option maxRecDepth 100000 in
set_option maxHeartbeats 2000000 in
theorem forms_any (F : GarC) (m : Int) (A : Option Addr) (n c : Nat) (xs : List Int) (B : Option Addr) (l d : Nat) (ys : List Int) (w : World) (ha : SL w A n c xs) (hb : SL w B l d ys) (hm : (Lit.int .i64 m).wf = true) (h2 : 2 ≤ m)
    (fx : bfault m xs = 0) (fy : bfault m ys = 0) (e : gp m.toNat xs = gp m.toNat ys) :
    Calls Try.prog 27 #[.int .i64 m, .slice A n c, .slice B l d] w (GivesForms w) := by
  have HF := hide F
  have HE := hide e
  have HM := hide hm
  have HX := hide fx
  have HY := hide fy
  have HB := hide hb
  have HA := hide ha
  clear F e ha hb hm fx fy
  go_enter Try.func27, Try.ntmps27
  go_wp2_with fail
  refine (HF.out.normal m A n c xs w HA.out HM.out).mono ?_
  rintro e w1 ⟨k1, l1, A1, n1, c1, rfl, hs1, hb1, g1, _⟩
  rw [HX.out]
  have G1 := hide (g1 HX.out)
  replace HB := hide (HB.out.below hb1)
  have HS1 := hide hs1
  have HW := hide hb1
  clear hs1 hb1 g1
  go_wp2_with fail
  refine (HF.out.normal m B l d ys w1 HB.out HM.out).mono ?_
  rintro e w2 ⟨k2, l2, A2, n2, c2, rfl, hs2, hb2, g2, _⟩
  rw [HY.out]
  obtain ⟨rfl, rfl⟩ := G1.out.unique (by omega) (g2 HY.out) HE.out
  replace HS1 := hide (HS1.out.below hb2)
  have HS2 := hide hs2
  replace HW := hide (HW.out.trans (hb2.mono HW.out.size))
  clear hs2 hb2 g2 G1
  have hkk : (k1 == k1) = true := by simp
  go_wp2_with fail
  refine (formFunc_yes A1 A2 n1 n2 c1 c2 _ _ HS1.out.ill HS2.out.ill).mono ?_
  rintro e w3 ⟨rfl, hb3⟩
  replace HW := hide (HW.out.trans (hb3.mono HW.out.size))
  clear hb3
  go_wp2_with fail
  go_ret
  exact ⟨rfl, HW.out⟩
end Go.Proofs.Ytoaiblhlpdaeoaa
/- timbref1.Image. (Written by tools/gen_image.py.) -/
namespace Go.Proofs.Ytoaiblhlpdaeoaa
set_option linter.unusedVariables false
set_option linter.unusedSimpArgs false
open Go.RowKit

def bz (B : Nat) (u : List Int) : Prop := ∀ z ∈ u, z ≠ 0 ∧ z.natAbs ≤ B
theorem bz.nz {B : Nat} {u : List Int} (h : bz B u) : Proofs.Ytoaiblhlpdaeoaa.nz u := fun z hz => (h z hz).1
theorem bz.inv {B : Nat} {u : List Int} (h : bz B u) : bz B (invw u) := fun z hz => by
  have : ∃ x ∈ u, -x = z := by simpa [invw] using hz
  obtain ⟨x, hx, rfl⟩ := this
  have := h x hx
  omega
end Go.Proofs.Ytoaiblhlpdaeoaa
/- GarsideSame. -/
namespace Go.Proofs.Ytoaiblhlpdaeoaa
set_option linter.unusedVariables false
set_option linter.unusedSimpArgs false
open Go.RowKit Gar

theorem word_okB {T : Nat} {us : List Int} (h : ∀ x ∈ us, x ≠ 0 ∧ x ≤ (T : Int) ∧ -(T : Int) ≤ x) : okB (T + 1) us := fun x hx => by have := h x hx; omega
theorem bf_ok {n : Nat} (h1 : 1 ≤ n) (h6 : n ≤ 6) {w : List Int} (hw : okB n w) (hl : w.length ≤ 30) : bfault (n : Int) w = 0 := bfault_ok (by omega) (by omega) hl fun x hx => by have := hw x hx; omega
end Go.Proofs.Ytoaiblhlpdaeoaa
/- timbmake.Strands for any greatest number; slices.Concat of two slices. -/
namespace Go.Proofs.Ytoaiblhlpdaeoaa
set_option linter.unusedVariables false
set_option linter.unusedSimpArgs false
open Go.RowKit

set_option maxRecDepth 100000 in
theorem strands_gen (n : Int) (K : Nat) (kz : Int) (hkz : kz = (K : Int) + 1) (h1 : 1 ≤ K) (hK : K ≤ 10) (w : World) : Calls Try.prog 23 #[.int .i64 n, .int .i64 kz] w fun e w' => ∃ T : Nat, 1 ≤ T ∧ T ≤ K ∧ e = .returned (.int .i64 ((T : Int) + 1)) ∧ w = w' := by
  subst hkz
  obtain ⟨p, hp⟩ : ∃ p : Nat, n % (K : Int) = (p : Int) := ⟨(n % (K : Int)).toNat, by have := Int.emod_nonneg n (show (K : Int) ≠ 0 by omega); omega⟩
  have hp5 : p < K := by have := Int.emod_lt_of_pos n (show (0 : Int) < (K : Int) by omega); omega
  have HP := hide hp
  have hadd : IntKind.i64.wrap (2 + (p : Int)) = ((p + 1 : Nat) : Int) + 1 := by rw [IntKind.wrap_i64]; omega
  have HA := hide hadd
  have hs1 : (K : Int) + 1 - 1 = (K : Int) := by omega
  have hs2 : IntKind.i64.wrap (K : Int) = (K : Int) := by rw [IntKind.wrap_i64]; omega
  clear hp hadd
  go_enter Try.func23, Try.ntmps23
  go_wp2_with fail
  refine (mbelow_any n K _ h1 (by omega)).mono ?_
  rintro e w1 ⟨rfl, hww⟩
  subst hww
  rw [HP.out]
  go_wp2_with ((with_reducible show wpList _ _ _ (Oper.mk _ (.binOp .add _ _ _) _ _ _ _ :: _) _ _); refine wpList_gives rfl (gives_add rfl rfl rfl HA.out) ?_)
  go_ret
  exact ⟨p + 1, by omega, by omega, by
    have e : IntKind.i64.wrap (2 + (p : Int)) = ((p + 1 : Nat) : Int) + 1 := HA.out
    first | rfl | (simp; omega) | (simp [e]; omega), rfl⟩
theorem concat2_any (A : Option Addr) (n c : Nat) (xs : List Int) (B : Option Addr) (m d : Nat) (ys : List Int) (w : World) (ha : SL w A n c xs) (hb : SL w B m d ys) (hl : xs.length + ys.length ≤ 1000000) :
    Calls Try.prog 29 #[.slice (some ⟨w.heap.size, 0, none⟩) 2 2] (w.alloc (.cells #[.slice A n c, .slice B m d] 22)) fun e w' => ∃ D dn dc, e = .returned (.slice D dn dc) ∧ OwnI w' w.heap.size D dn dc (xs ++ ys) ∧ Below w.heap.size w w' := by
  have hlit := (show ILL (w.alloc (.cells #[.slice A n c, .slice B m d] 22)) (some ⟨w.heap.size, 0, none⟩) 2 [xs, ys] from
    ILL.lit (vs := [.slice A n c, .slice B m d]) rfl (by simp) (fun j hj => by
      match j, hj with
      | 0, _ => exact ⟨_, _, _, rfl, ha.il⟩
      | 1, _ => exact ⟨_, _, _, rfl, hb.il⟩
      | j + 2, h => exact absurd h (by simp)) rfl rfl)
  have hal : Below w.heap.size w (w.alloc (.cells #[.slice A n c, .slice B m d] 22)) := (Below.refl _ _).alloc (Nat.le_refl _) _
  have hfl : [xs, ys].flatten = xs ++ ys := by simp
  refine (concat_any (some ⟨w.heap.size, 0, none⟩) 2 2 _ _ hlit (by rw [hfl, List.length_append]; exact hl)).mono ?_
  rintro e w2 ⟨D, dn, dc, rfl, ho, hb0⟩
  rw [hfl] at ho
  exact ⟨D, dn, dc, rfl, ho.mono hal.size, hal.trans (hb0.mono hal.size)⟩
end Go.Proofs.Ytoaiblhlpdaeoaa
/- GarsideCenter. -/
namespace Go.Proofs.Ytoaiblhlpdaeoaa
set_option linter.unusedVariables false
set_option linter.unusedSimpArgs false
open Go.RowKit Gar

theorem zp_one (n : Nat) : zp n 1 = dl n := by
  have := zp_nat n 1
  rw [show ((1 : Nat) : Int) = 1 from rfl] at this
  rw [this]
  exact G_mul_one _
theorem half_word {n : Nat} (h2 : 2 ≤ n) (h6 : n ≤ 6) : wordE (n : Int) 1 [] = 0 ∧ wordL (n : Int) 1 [] = halfW n := by
  obtain ⟨_, h3, _⟩ := half_len h2 h6
  have hw : wriW n 1 [] = halfW n := by
    unfold wriW powW
    rw [if_neg (by omega)]
    show rep (halfW n) 1 ++ [] = _
    rw [rep_one, List.append_nil]
  have hf : ffE (n : Int) [] = 0 := by
    unfold ffE
    rw [if_neg (by omega), if_neg (by simp)]
    rfl
  have e1 : wordE (n : Int) 1 [] = 0 := by
    unfold wordE
    rw [if_neg (by rw [hf]; simp), if_neg (by decide), Int.toNat_natCast, show nlL [] = [] from rfl, hw, if_neg (by omega)]
  exact ⟨e1, by unfold wordL; rw [if_pos e1, Int.toNat_natCast, show nlL [] = [] from rfl, hw]⟩
theorem gp_full2 (n : Nat) : gp n (halfW n ++ halfW n) = zp n 2 := by
  rw [← gp_mul, gp_half, ← zp_one, zp_addI]
  rfl
theorem NFw.full {n : Nat} (h2 : 2 ≤ n) {xs : List Int} {k : Int} {l : List (List Nat)} (h : NFw n xs k l) : NFw n (halfW n ++ halfW n ++ xs) (k + 2) l := by
  refine ⟨h.pl, h.nf, ?_, fun e => by omega⟩
  rw [show gp n (halfW n ++ halfW n ++ xs) = gp n (halfW n ++ halfW n) * gp n xs from rfl, gp_full2, ← h.val]
  unfold nfv
  rw [← G_assoc, zp_addI, Int.add_comm]
theorem full_both (n : Nat) (xs : List Int) : gp n (halfW n ++ halfW n ++ xs) = gp n (xs ++ (halfW n ++ halfW n)) := by
  rw [show gp n (halfW n ++ halfW n ++ xs) = gp n (halfW n ++ halfW n) * gp n xs from rfl, show gp n (xs ++ (halfW n ++ halfW n)) = gp n xs * gp n (halfW n ++ halfW n) from rfl, gp_full2, full_G]

set_option maxRecDepth 100000 in
set_option maxHeartbeats 8000000 in
theorem garsideCenter_any (F : GarC) (nn : Int) (A : Option Addr) (n c : Nat) (us : List Int) (w : World) (ha : SL w A n c us) :
    Calls Try.prog 7 #[.int .i64 nn, .slice A n c] w fun e w' => e = .returned (.bool true) ∧ Below w.heap.size w w' := by
  have HF := hide F
  have HA := hide ha
  clear F ha
  go_enter Try.func7, Try.ntmps7
  go_wp2_with fail
  refine (strands_gen nn 4 5 rfl (by omega) (by omega) w).mono ?_
  rintro e w0 ⟨T, hT1, hT4, rfl, hww⟩
  subst hww
  have hw1 : IntKind.i64.wrap (T : Int) = (T : Int) := by rw [IntKind.wrap_i64]; omega
  have hs1 : (T : Int) + 1 - 1 = (T : Int) := by omega
  go_wp2_with fail
  refine (word_any A T n c 10 us w HA.out.il HA.out.cap (by omega) (by omega) (by omega)).mono ?_
  rintro e w1 ⟨xs, X, xn, xc, rfl, ho, hx, hxn, hb⟩
  have hxl := ho.len
  have SX := hide ho.sl
  have HW := hide hb
  have hok := word_okB hx
  obtain ⟨N, hN⟩ : ∃ N, T + 1 = N := ⟨_, rfl⟩
  rw [hN] at hok
  have hTi : (T : Int) + 1 = (N : Int) := by omega
  rw [hTi]
  have hN2 : 2 ≤ N := by omega
  have hN6 : N ≤ 6 := by omega
  obtain ⟨q1, q2, q3⟩ := half_len hN2 hN6
  have q4 : (halfW N).length ≤ 10 := by
    have : N = 2 ∨ N = 3 ∨ N = 4 ∨ N = 5 := by omega
    rcases this with rfl | rfl | rfl | rfl <;> omega
  have hxl10 : xs.length ≤ 10 := by omega
  have hoh := okB_half N
  have HFX := hide (bf_ok (by omega) hN6 hok (by omega))
  have HFF := hide (bf_ok (w := halfW N ++ halfW N ++ xs) (by omega) hN6 (okB_app (okB_app hoh hoh) hok) (by simp; omega))
  have HFG := hide (bf_ok (w := xs ++ (halfW N ++ halfW N)) (by omega) hN6 (okB_app hok (okB_app hoh hoh)) (by simp; omega))
  have HWM := hide (wfI (x := (N : Int)) (by omega))
  have HXL := hide hxl10
  have HHL := hide q4
  have HQ3 : Hid (((halfW N).length : Int) = (((N : Int) * ((N : Int) - 1)).tdiv 2)) := hide (by
    have : N = 2 ∨ N = 3 ∨ N = 4 ∨ N = 5 := by omega
    obtain ⟨a, b, c, d, e⟩ := half_len2
    rcases this with rfl | rfl | rfl | rfl
    · rw [a]; decide
    · rw [b]; decide
    · rw [c]; decide
    · rw [d]; decide)
  obtain ⟨e1, e2⟩ := half_word hN2 hN6
  have HWD := hide (fun (w' : World) => HF.out.word (N : Int) 1 none 0 0 [] w' ⟨rfl, by omega, fun _ => ⟨rfl, rfl⟩, Nat.le_refl _, fun h => absurd h (by omega)⟩ HWM.out (by decide))
  rw [e1, e2] at HWD
  have HNT := hide hTi
  clear ho hb hx hok q1 q2 q3 q4 hoh e1 e2 HA hw1 hs1 hN hTi hxl hxl10
  go_wp2_with fail
  refine (HWD.out w1).mono ?_
  rintro e w2 ⟨H, hn, hc, rfl, hs, hb⟩
  replace SX := hide (SX.out.below hb)
  replace HW := hide (HW.out.trans (hb.mono HW.out.size))
  have SH := hide hs
  clear hb hs HWD
  go_wp2_with fail
  refine (concat2_any H hn hc _ H hn hc _ w2 SH.out SH.out (by have := HHL.out; omega)).mono ?_
  rintro e w3 ⟨D, dn, dc, rfl, ho, hb⟩
  replace SX := hide (SX.out.below hb)
  replace SH := hide (SH.out.below hb)
  replace HW := hide (HW.out.trans (hb.mono HW.out.size))
  have SD := hide ho.sl
  clear hb ho
  go_wp2_with fail
  refine (HF.out.normal (N : Int) X xn xc xs w3 SX.out HWM.out).mono ?_
  rintro e w4 ⟨k, l, L, ln, lc, rfl, hs, hb, g, _⟩
  rw [HFX.out]
  have hnf := g HFX.out
  rw [Int.toNat_natCast] at hnf
  have hk1 := power_ge hN2 hnf.nf hnf.val
  have hk2 := power_le hN2 hnf.nf hnf.val
  have hkx := HXL.out
  have hkb : k.natAbs ≤ 10 := by omega
  have HNF := hide hnf
  replace SX := hide (SX.out.below hb)
  replace SH := hide (SH.out.below hb)
  replace SD := hide (SD.out.below hb)
  replace HW := hide (HW.out.trans (hb.mono HW.out.size))
  have SL1 := hide hs
  clear hb hs g hnf hk1 hk2 hkx
  go_wp2_with fail
  refine (concat2_any D dn dc _ X xn xc _ w4 SD.out SX.out (by have := HHL.out; have := HXL.out; simp; omega)).mono ?_
  rintro e w5 ⟨Y, yn, yc, rfl, ho, hb⟩
  replace SX := hide (SX.out.below hb)
  replace SH := hide (SH.out.below hb)
  replace SD := hide (SD.out.below hb)
  replace SL1 := hide (SL1.out.below hb)
  replace HW := hide (HW.out.trans (hb.mono HW.out.size))
  have SY := hide ho.sl
  clear hb ho
  go_wp2_with fail
  refine (HF.out.normal (N : Int) Y yn yc _ w5 SY.out HWM.out).mono ?_
  rintro e w6 ⟨k2, l2, L2, ln2, lc2, rfl, hs, hb, g, _⟩
  rw [HFF.out]
  have hnf := g HFF.out
  rw [Int.toNat_natCast] at hnf
  obtain ⟨rfl, rfl⟩ := hnf.unique hN2 (HNF.out.full hN2) rfl
  replace SX := hide (SX.out.below hb)
  replace SH := hide (SH.out.below hb)
  replace SD := hide (SD.out.below hb)
  replace SL1 := hide (SL1.out.below hb)
  replace HW := hide (HW.out.trans (hb.mono HW.out.size))
  have SL2 := hide hs
  clear hb hs g hnf SY
  go_upto_region 7 with fail
  go_wp2_with fail
  refine (formed_k HF.out w6).mono ?_
  rintro e w7 ⟨rfl, hb⟩
  replace SX := hide (SX.out.below hb)
  replace SH := hide (SH.out.below hb)
  replace SD := hide (SD.out.below hb)
  replace SL1 := hide (SL1.out.below hb)
  replace SL2 := hide (SL2.out.below hb)
  replace HW := hide (HW.out.trans (hb.mono HW.out.size))
  have hhn : hn = (halfW N).length := SH.out.il.len.symm
  have hN5 : N ≤ 5 := by have := HNT.out; omega
  have hmul : (N : Int) * ((N : Int) - 1) ≤ 20 := by
    have : N = 2 ∨ N = 3 ∨ N = 4 ∨ N = 5 := by omega
    rcases this with rfl | rfl | rfl | rfl <;> decide
  have hmul0 : 0 ≤ (N : Int) * ((N : Int) - 1) := Int.mul_nonneg (by omega) (by omega)
  have hq : (hn : Int) = ((N : Int) * ((N : Int) - 1)).tdiv 2 := by rw [hhn]; exact HQ3.out
  have hm1 : IntKind.i64.wrap ((N : Int) - 1) = (N : Int) - 1 := by rw [IntKind.wrap_i64]; omega
  have hm2 : IntKind.i64.wrap ((N : Int) * ((N : Int) - 1)) = (N : Int) * ((N : Int) - 1) := by rw [IntKind.wrap_i64]; omega
  have hm3 : IntKind.i64.wrap (((N : Int) * ((N : Int) - 1)).tdiv 2) = ((N : Int) * ((N : Int) - 1)).tdiv 2 := by rw [← hq, IntKind.wrap_i64]; have := HHL.out; omega
  have hk2 : IntKind.i64.wrap (k + 2) = k + 2 := by rw [IntKind.wrap_i64]; omega
  have hkk : (k + 2 == k + 2) = true := by simp
  have hhh : ((hn : Int) == ((N : Int) * ((N : Int) - 1)).tdiv 2) = true := by rw [hq]; simp
  clear hb hhn hq hmul hmul0
  go_wp2_with fail
  refine (gcenFunc_yes L L2 ln ln2 lc lc2 _ w7 SL1.out.ill SL2.out.ill).mono ?_
  rintro e w8 ⟨rfl, hb⟩
  replace SX := hide (SX.out.below hb)
  replace SD := hide (SD.out.below hb)
  replace HW := hide (HW.out.trans (hb.mono HW.out.size))
  clear hb SL1 SL2 SH hm1 hm2 hm3 hk2 hkk hhh
  go_wp2_with fail
  refine (concat2_any D dn dc _ X xn xc _ w8 SD.out SX.out (by have := HHL.out; have := HXL.out; simp; omega)).mono ?_
  rintro e w9 ⟨Y, yn, yc, rfl, ho, hb⟩
  replace SX := hide (SX.out.below hb)
  replace SD := hide (SD.out.below hb)
  replace HW := hide (HW.out.trans (hb.mono HW.out.size))
  have SY := hide ho.sl
  clear hb ho
  go_wp2_with fail
  refine (concat2_any X xn xc _ D dn dc _ w9 SX.out SD.out (by have := HHL.out; have := HXL.out; simp; omega)).mono ?_
  rintro e w10 ⟨Z, zn, zc, rfl, ho, hb⟩
  replace SY := hide (SY.out.below hb)
  replace HW := hide (HW.out.trans (hb.mono HW.out.size))
  have SZ := hide ho.sl
  clear hb ho SX SD
  go_wp2_with fail
  refine (forms_any HF.out (N : Int) Y yn yc _ Z zn zc _ w10 SY.out SZ.out HWM.out (by omega) HFF.out HFG.out (by rw [Int.toNat_natCast]; exact full_both N xs)).mono ?_
  rintro e w11 ⟨rfl, hb⟩
  replace HW := hide (HW.out.trans (hb.mono HW.out.size))
  clear hb
  go_wp2_with fail
  go_ret
  exact ⟨rfl, HW.out⟩
end Go.Proofs.Ytoaiblhlpdaeoaa
