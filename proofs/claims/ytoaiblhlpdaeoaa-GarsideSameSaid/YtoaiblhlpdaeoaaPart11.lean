/- Several texts in one. -/
import Derived.Test.YtoaiblhlpdaeoaaPart10
import Derived.Test.YtoaiblhlpdaeoaaPart3
import Derived.Test.YtoaiblhlpdaeoaaPart1
import Derived.Test.YtoaiblhlpdaeoaaPart6
import Derived.Test.YtoaiblhlpdaeoaaBase1
import Derived.Test.YtoaiblhlpdaeoaaPart2
import Derived.Test.YtoaiblhlpdaeoaaBase2
/- Package garside: Word; the contracts together. (Written by tools/gen_gword.py.) -/
namespace Go.Proofs.Ytoaiblhlpdaeoaa
set_option linter.unusedVariables false
set_option linter.unusedSimpArgs false
open Go.RowKit

theorem half_fault {n : Nat} (h1 : 2 ≤ n) (h6 : n ≤ 6) : bfault (n : Int) (halfW n) = 0 :=
  bfault_ok (by omega) (by omega) (by have := (half_len h1 h6).2.1; omega) fun x hx => by have := okB_half n x hx; omega
set_option maxRecDepth 100000 in
set_option maxHeartbeats 8000000 in
theorem gWord_any (m k : Int) (A : Option Addr) (l c : Nat) (xss : List (List Int)) (w : World) (ha : SLL w A l c xss) (hm : (Lit.int .i64 m).wf = true) (hkw : (Lit.int .i64 k).wf = true) :
    Calls Try.prog 19 #[.int .i64 m, .int .i64 k, .slice A l c] w (GivesLE w (wordE m k xss) (wordL m k xss)) := by
  have HCK := hide (gcheck_any m A l c xss w ha hm)
  have HA := hide ha
  have HWM := hide hm
  clear ha hm
  by_cases h0 : ffE m xss = 0
  case neg =>
    have HE : Hid (wordE m k xss = ffE m xss) := hide (by unfold wordE; rw [if_pos h0])
    have HV : Hid (wordL m k xss = []) := hide (by unfold wordL; rw [HE.out, if_neg h0])
    obtain ⟨f, hf⟩ : ∃ f, ffE m xss = f := ⟨_, rfl⟩
    have HF := hide hf
    rw [hf] at h0
    have hne : (f != 0) = true := by simpa using h0
    clear hf h0
    go_enter Try.func19, Try.ntmps19
    go_wp2_with fail
    refine HCK.out.mono ?_
    rintro e w1 ⟨rfl, hb⟩
    rw [HF.out]
    have HB := hide hb
    clear hb
    go_wp2_with fail
    go_ret2
    rw [HE.out, HV.out, HF.out]
    exact ⟨none, 0, 0, rfl, SL.nil_ _, HB.out⟩
  by_cases h30 : 30 < k.natAbs
  · have HE : Hid (wordE m k xss = 2) := hide (by unfold wordE; rw [if_neg (by simp [h0]), if_pos h30])
    have HV : Hid (wordL m k xss = []) := hide (by unfold wordL; rw [HE.out, if_neg (by decide)])
    have HF := hide h0
    have hkk : k < -30 ∨ 30 < k := by omega
    clear h0 h30
    rcases hkk with hk | hk
    · have hd1 : decide (k < -30) = true := decide_eq_true hk
      clear hk
      go_enter Try.func19, Try.ntmps19
      go_wp2_with fail
      refine HCK.out.mono ?_
      rintro e w1 ⟨rfl, hb⟩
      rw [HF.out]
      have HB := hide hb
      clear hb
      go_wp2_with fail
      go_ret2
      rw [HE.out, HV.out]
      exact ⟨none, 0, 0, rfl, SL.nil_ _, HB.out⟩
    · have hd1 : decide (k < -30) = false := decide_eq_false (by omega)
      have hd2 : decide ((30 : Int) < k) = true := decide_eq_true hk
      clear hk
      go_enter Try.func19, Try.ntmps19
      go_wp2_with fail
      refine HCK.out.mono ?_
      rintro e w1 ⟨rfl, hb⟩
      rw [HF.out]
      have HB := hide hb
      clear hb
      go_wp2_with fail
      go_ret2
      rw [HE.out, HV.out]
      exact ⟨none, 0, 0, rfl, SL.nil_ _, HB.out⟩
  obtain ⟨n, ps, rfl, h2, h6, rfl, hpl, hPL, _⟩ := ffE_ok h0
  have HE : Hid (wordE (n : Int) k (ps.map zs) = if 30 < (wriW n k ps).length then 2 else 0) := hide (by unfold wordE; rw [if_neg (by simp [h0]), if_neg h30, Int.toNat_natCast, nlL_zs])
  have HV : Hid (wordL (n : Int) k (ps.map zs) = if 30 < (wriW n k ps).length then [] else wriW n k ps) := hide (by
    unfold wordL
    rw [HE.out, Int.toNat_natCast, nlL_zs]
    split
    · rw [if_neg (by decide)]
    · rw [if_pos rfl])
  have HF := hide h0
  have HP := hide hPL
  have HL : Hid (ps.length = l) := hide (by have := HA.out.len; rwa [List.length_map] at this)
  have hl30 : l ≤ 30 := by rw [← HL.out]; exact hpl
  have hd1 : decide (k < -30) = false := decide_eq_false (by omega)
  have hd2 : decide ((30 : Int) < k) = false := decide_eq_false (by omega)
  obtain ⟨q1, q2, _⟩ := half_len h2 h6
  have HQ1 := hide q1
  have HQ2 := hide q2
  have HOK := hide (okB_half n)
  obtain ⟨i0, hi0, hz0, hz1, hz2⟩ := info_parts int_info
  have HI0 := hide hi0
  have HZ0 := hide hz0
  have HZ1 := hide hz1
  have HZ2 := hide hz2
  clear h0 hpl hPL q1 q2 hi0 hz0 hz1 hz2
  go_enter Try.func19, Try.ntmps19
  go_wp2_with fail
  refine HCK.out.mono ?_
  rintro e w0 ⟨rfl, hb⟩
  rw [HF.out]
  have HW := hide hb
  clear hb HCK
  go_wp2_with fail
  refine (ghalf_any n w0 (by omega)).mono ?_
  rintro e w1 ⟨F, fn, fc, rfl, ho, hb⟩
  have hfn : fn = n := by have := ho.len; rw [zs_length, (full_isP n).2] at this; exact this.symm
  subst hfn
  replace HW := hide (HW.out.trans (hb.mono HW.out.size))
  have HS := hide (gword_any F fn fc _ w1 ho.sl (full_isP fn).1 (full_isP fn).2 (by omega) h6)
  clear hb ho
  go_wp2_with fail
  refine HS.out.mono ?_
  rintro e w2 ⟨H, hn, hc, rfl, ho, hb⟩
  change OwnI w2 w1.heap.size H hn hc (halfW fn) at ho
  have hhn := ho.len
  replace HW := hide (HW.out.trans (hb.mono HW.out.size))
  have HH := hide ho.sl
  have HHN := hide hhn
  have hq1 := HQ1.out
  have hq2 := HQ2.out
  rw [hhn] at hq1 hq2
  clear hb ho hhn HS
  by_cases hneg : k < 0
  · obtain ⟨q, hq⟩ : ∃ q : Nat, k = -(q : Int) := ⟨k.natAbs, by omega⟩
    subst hq
    have hq30 : q ≤ 30 := by omega
    have hwq : IntKind.i64.wrap (- -(q : Int)) = (q : Int) := by rw [IntKind.wrap_i64]; omega
    have hmx : max (-(q : Int)) (- -(q : Int)) = (q : Int) := by omega
    have hmx2 : max (-(q : Int)) (q : Int) = (q : Int) := by omega
    have HPW : Hid (powW fn (-(q : Int)) = rep (invw (halfW fn)) q) := hide (by unfold powW; rw [if_pos hneg, show (-(q : Int)).natAbs = q by omega])
    have HBI := hide (binv_any (fn : Int) H hn hc _ w2 HH.out (wfI (by omega)))
    have hfz := half_fault h2 h6
    rw [hfz, show invB (fn : Int) (halfW fn) = invw (halfW fn) by unfold invB; rw [if_pos hfz]] at HBI
    clear hfz
    go_wp2_with fail
    refine HBI.out.mono ?_
    rintro e w3 ⟨D, dn, dc, rfl, hs, hb⟩
    have hdn : dn = hn := by have := hs.il.len; rw [invw_length, HHN.out] at this; exact this.symm
    subst hdn
    replace HW := hide (HW.out.trans (hb.mono HW.out.size))
    have HRP := hide (repeat_all D dn dc q _ w3 hs.il hq1 (by omega) (by have := Nat.mul_le_mul hq30 hq2; omega))
    rw [← HPW.out] at HRP
    clear hb hs HBI
    go_wp2_with ((with_reducible show wpList _ _ _ (Oper.mk _ (.call { callee := .builtin .max, args := _, argTypes := _ }) _ _ _ _ :: _) _ _); refine wpList_gives rfl (gives_maxI rfl rfl rfl (by first | exact hmx | exact hmx2)) ?_)
    refine HRP.out.mono ?_
    rintro e w4 ⟨R, rn, rc, rfl, ho, hb⟩
    have hrn : rn ≤ 450 := by
      have h1 := ho.len
      rw [HPW.out, rep_length] at h1
      have h3 := invw_length (halfW fn)
      rw [h3, HHN.out] at h1
      have := Nat.mul_le_mul hq30 hq2
      omega
    have HPL := hide ho.len
    have HO : Hid (OwnI w4 w.heap.size R rn rc (powW fn (-(q : Int)) ++ facW (ps.take 0))) := hide (by
      rw [List.take_zero, show facW [] = [] from rfl, List.append_nil]
      exact ho.mono HW.out.size)
    replace HW := hide (HW.out.trans (hb.mono HW.out.size))
    clear hb ho HRP HPW hwq HH HHN hq1 hq2 hmx hmx2 hneg
    go_wp2_with fail
    go_loopw [10, 44] (fun ov iv wr => ∃ (j : Nat) (D : Option Addr) (dn dc : Nat), j ≤ l ∧ iv = .int .i64 j ∧ ov = .slice D dn dc ∧ Hid (OwnI wr w.heap.size D dn dc (powW fn (-(q : Int)) ++ facW (ps.take j))) ∧ Hid (Below w.heap.size w wr)) (fun _ iv _ => l - (intOf iv).toNat)
    case atStart => exact ⟨0, R, rn, rc, Nat.zero_le _, rfl, rfl, HO, HW⟩
    case round =>
      clear HO HW
      obtain ⟨j, D, dn, dc, hj, rfl, rfl, HO, HB⟩ := hrel
      by_cases hjl : j < l
      · have hjp : j < ps.length := by rw [HL.out]; exact hjl
        obtain ⟨ad, B, bm, bd, rfl, hcl, hr⟩ := (HA.out.below HB.out).at_ hjl
        have hpm : ps.getD j [] ∈ ps := by rw [show ps.getD j [] = ps[j] by simp [List.getD, hjp]]; exact List.getElem_mem _
        obtain ⟨pp1, pp2⟩ := HP.out _ hpm
        rw [show (ps.map zs).getD j [] = zs (ps.getD j []) by simp [List.getD, hjp]] at hr
        have hbm : bm = fn := by have := hr.il.len; rw [zs_length, pp2] at this; exact this.symm
        subst hbm
        have HSP := hide (gword_any B bm bd _ wr hr pp1 pp2 (by omega) h6)
        have HFT := hide (facW_take hjp)
        have hdn : dn ≤ 2000 := by
          have h1 := HO.out.len
          rw [List.length_append, HPL.out] at h1
          have h3 := facW_len (n := bm) (l := ps.take j) (fun p hp => (HP.out p (List.mem_of_mem_take hp)).2) h6
          rw [List.length_take] at h3
          omega
        have hwl : (wrd (ps.getD j [])).length ≤ 36 := by
          have h1 := wrd_len (ps.getD j [])
          rw [pp2] at h1
          have := Nat.mul_le_mul h6 h6
          omega
        have HWL := hide hwl
        have HJL := hide hjl
        clear hjp hr hpm pp1 pp2 hwl
        generalize ps.getD j [] = p at *
        go_wp2_with fail
        refine HSP.out.mono ?_
        rintro e w5 ⟨S, sn, sc, rfl, ho, hb⟩
        have hsn : sn ≤ 36 := by have := ho.len; have := HWL.out; omega
        have HS5 := hide ho.il
        have hO5 := HO.out.below hb
        have HO5 := hide hO5
        have HB5 := hide (HB.out.trans (hb.mono HB.out.size))
        have hsz5 := HB5.out.size
        clear hb ho hO5 HSP hcl
        go_wp2_with (at_builtin; refine wpList_append_int _ rfl (.tmp 48) (.tmp 50) 22 rfl w.heap.size i0 Try.underlying22 HI0.out HZ0.out HZ1.out HZ2.out D dn dc _ rfl HO5.out S sn sc (wrd p) rfl HS5.out (by omega) hsz5 ?_; intro A9 c9 w9 happ)
        have ho := happ.own
        rw [List.append_assoc, ← HFT.out] at ho
        have HO9 := hide ho
        have hb9 : Below w.heap.size w w9 := HB5.out.grown happ.grown hsz5 (fun b hb => (HO5.out.lt b (by rw [ownBlock_len D dn (dn + sn) dc dc]; exact hb)).1)
        have HB9 := hide hb9
        clear ho hb9 happ
        have hjl := HJL.out
        go_wp2_with fail
        go_roundw
        case rel => exact ⟨j + 1, A9, dn + sn, c9, by omega, by go_num, rfl, HO9, HB9⟩
        case measure => simp [intOf]; omega
      · have hjl2 : j = l := by omega
        have HEW : Hid (OwnI wr w.heap.size D dn dc (wriW fn (-(q : Int)) ps)) := hide (by
          have h := HO.out
          rw [hjl2, List.take_of_length_le (by rw [HL.out]; exact Nat.le_refl _)] at h
          exact h)
        have HLN := hide HEW.out.len
        clear HO hjl2
        by_cases h31 : 30 < dn
        · have hdd : decide ((30 : Int) < (dn : Int)) = true := decide_eq_true (by omega)
          have HE2 := hide (HE.out.trans (if_pos (by rw [HLN.out]; exact h31)))
          have HV2 := hide (HV.out.trans (if_pos (by rw [HLN.out]; exact h31)))
          clear h31
          go_wp2_with fail
          go_ret2
          rw [HE2.out, HV2.out]
          exact ⟨none, 0, 0, rfl, SL.nil_ _, HB.out⟩
        · have hdd : decide ((30 : Int) < (dn : Int)) = false := decide_eq_false (by omega)
          have HE2 := hide (HE.out.trans (if_neg (by rw [HLN.out]; exact h31)))
          have HV2 := hide (HV.out.trans (if_neg (by rw [HLN.out]; exact h31)))
          clear h31
          go_wp2_with fail
          go_ret2
          rw [HE2.out, HV2.out]
          exact ⟨D, dn, dc, rfl, HEW.out.sl, HB.out⟩
  · obtain ⟨q, hq⟩ : ∃ q : Nat, k = (q : Int) := ⟨k.natAbs, by omega⟩
    subst hq
    have hq30 : q ≤ 30 := by omega
    have hwq : IntKind.i64.wrap (-(q : Int)) = -(q : Int) := by rw [IntKind.wrap_i64]; omega
    have hmx : max (q : Int) (-(q : Int)) = (q : Int) := by omega
    have hmx2 : True := trivial
    have HPW : Hid (powW fn (q : Int) = rep (halfW fn) q) := hide (by unfold powW; rw [if_neg hneg, Int.natAbs_natCast])
    have HRP := hide (repeat_all H hn hc q _ w2 HH.out.il hq1 (by omega) (by have := Nat.mul_le_mul hq30 hq2; omega))
    rw [← HPW.out] at HRP
    go_wp2_with ((with_reducible show wpList _ _ _ (Oper.mk _ (.call { callee := .builtin .max, args := _, argTypes := _ }) _ _ _ _ :: _) _ _); refine wpList_gives rfl (gives_maxI rfl rfl rfl (by first | exact hmx | exact hmx2)) ?_)
    refine HRP.out.mono ?_
    rintro e w4 ⟨R, rn, rc, rfl, ho, hb⟩
    have hrn : rn ≤ 450 := by
      have h1 := ho.len
      rw [HPW.out, rep_length] at h1
      rw [HHN.out] at h1
      have := Nat.mul_le_mul hq30 hq2
      omega
    have HPL := hide ho.len
    have HO : Hid (OwnI w4 w.heap.size R rn rc (powW fn (q : Int) ++ facW (ps.take 0))) := hide (by
      rw [List.take_zero, show facW [] = [] from rfl, List.append_nil]
      exact ho.mono HW.out.size)
    replace HW := hide (HW.out.trans (hb.mono HW.out.size))
    clear hb ho HRP HPW hwq HH HHN hq1 hq2 hmx hmx2 hneg
    go_wp2_with fail
    go_loopw [10, 44] (fun ov iv wr => ∃ (j : Nat) (D : Option Addr) (dn dc : Nat), j ≤ l ∧ iv = .int .i64 j ∧ ov = .slice D dn dc ∧ Hid (OwnI wr w.heap.size D dn dc (powW fn (q : Int) ++ facW (ps.take j))) ∧ Hid (Below w.heap.size w wr)) (fun _ iv _ => l - (intOf iv).toNat)
    case atStart => exact ⟨0, R, rn, rc, Nat.zero_le _, rfl, rfl, HO, HW⟩
    case round =>
      clear HO HW
      obtain ⟨j, D, dn, dc, hj, rfl, rfl, HO, HB⟩ := hrel
      by_cases hjl : j < l
      · have hjp : j < ps.length := by rw [HL.out]; exact hjl
        obtain ⟨ad, B, bm, bd, rfl, hcl, hr⟩ := (HA.out.below HB.out).at_ hjl
        have hpm : ps.getD j [] ∈ ps := by rw [show ps.getD j [] = ps[j] by simp [List.getD, hjp]]; exact List.getElem_mem _
        obtain ⟨pp1, pp2⟩ := HP.out _ hpm
        rw [show (ps.map zs).getD j [] = zs (ps.getD j []) by simp [List.getD, hjp]] at hr
        have hbm : bm = fn := by have := hr.il.len; rw [zs_length, pp2] at this; exact this.symm
        subst hbm
        have HSP := hide (gword_any B bm bd _ wr hr pp1 pp2 (by omega) h6)
        have HFT := hide (facW_take hjp)
        have hdn : dn ≤ 2000 := by
          have h1 := HO.out.len
          rw [List.length_append, HPL.out] at h1
          have h3 := facW_len (n := bm) (l := ps.take j) (fun p hp => (HP.out p (List.mem_of_mem_take hp)).2) h6
          rw [List.length_take] at h3
          omega
        have hwl : (wrd (ps.getD j [])).length ≤ 36 := by
          have h1 := wrd_len (ps.getD j [])
          rw [pp2] at h1
          have := Nat.mul_le_mul h6 h6
          omega
        have HWL := hide hwl
        have HJL := hide hjl
        clear hjp hr hpm pp1 pp2 hwl
        generalize ps.getD j [] = p at *
        go_wp2_with fail
        refine HSP.out.mono ?_
        rintro e w5 ⟨S, sn, sc, rfl, ho, hb⟩
        have hsn : sn ≤ 36 := by have := ho.len; have := HWL.out; omega
        have HS5 := hide ho.il
        have hO5 := HO.out.below hb
        have HO5 := hide hO5
        have HB5 := hide (HB.out.trans (hb.mono HB.out.size))
        have hsz5 := HB5.out.size
        clear hb ho hO5 HSP hcl
        go_wp2_with (at_builtin; refine wpList_append_int _ rfl (.tmp 48) (.tmp 50) 22 rfl w.heap.size i0 Try.underlying22 HI0.out HZ0.out HZ1.out HZ2.out D dn dc _ rfl HO5.out S sn sc (wrd p) rfl HS5.out (by omega) hsz5 ?_; intro A9 c9 w9 happ)
        have ho := happ.own
        rw [List.append_assoc, ← HFT.out] at ho
        have HO9 := hide ho
        have hb9 : Below w.heap.size w w9 := HB5.out.grown happ.grown hsz5 (fun b hb => (HO5.out.lt b (by rw [ownBlock_len D dn (dn + sn) dc dc]; exact hb)).1)
        have HB9 := hide hb9
        clear ho hb9 happ
        have hjl := HJL.out
        go_wp2_with fail
        go_roundw
        case rel => exact ⟨j + 1, A9, dn + sn, c9, by omega, by go_num, rfl, HO9, HB9⟩
        case measure => simp [intOf]; omega
      · have hjl2 : j = l := by omega
        have HEW : Hid (OwnI wr w.heap.size D dn dc (wriW fn (q : Int) ps)) := hide (by
          have h := HO.out
          rw [hjl2, List.take_of_length_le (by rw [HL.out]; exact Nat.le_refl _)] at h
          exact h)
        have HLN := hide HEW.out.len
        clear HO hjl2
        by_cases h31 : 30 < dn
        · have hdd : decide ((30 : Int) < (dn : Int)) = true := decide_eq_true (by omega)
          have HE2 := hide (HE.out.trans (if_pos (by rw [HLN.out]; exact h31)))
          have HV2 := hide (HV.out.trans (if_pos (by rw [HLN.out]; exact h31)))
          clear h31
          go_wp2_with fail
          go_ret2
          rw [HE2.out, HV2.out]
          exact ⟨none, 0, 0, rfl, SL.nil_ _, HB.out⟩
        · have hdd : decide ((30 : Int) < (dn : Int)) = false := decide_eq_false (by omega)
          have HE2 := hide (HE.out.trans (if_neg (by rw [HLN.out]; exact h31)))
          have HV2 := hide (HV.out.trans (if_neg (by rw [HLN.out]; exact h31)))
          clear h31
          go_wp2_with fail
          go_ret2
          rw [HE2.out, HV2.out]
          exact ⟨D, dn, dc, rfl, HEW.out.sl, HB.out⟩

theorem garC : GarC where
  normal := gnormal_any
  check := gcheck_any
  word := gWord_any
  equal := gequal_any
end Go.Proofs.Ytoaiblhlpdaeoaa
/- slices.EqualFunc for lists of lists that are the same: timbkeep1.forms, GarsideCenter; a fact about a normal form. -/
namespace Go.Proofs.Ytoaiblhlpdaeoaa
set_option linter.unusedVariables false
set_option linter.unusedSimpArgs false
open Go.RowKit Gar

theorem form1_any (A B : Option Addr) (n m c d : Nat) (xs ys : List Int) (w : World) (ha : IL w A n xs) (hb : IL w B m ys) :
    Calls Try.prog 67 #[.slice A n c, .slice B m d] w fun e w' => e = .returned (.bool (eqB xs ys)) ∧ Below w.heap.size w w' := by
  have HC := hide (equal_any A B n m c d xs ys w ha hb)
  clear ha hb
  go_enter Try.func67, Try.ntmps67
  go_wp2_with fail
  refine HC.out.mono ?_
  rintro e w1 ⟨rfl, hb1⟩
  go_wp2
  go_ret
  exact ⟨rfl, hb1⟩

set_option maxHeartbeats 1000000 in
theorem formFunc_yes (A B : Option Addr) (n m c d : Nat) (xss : List (List Int)) (w : World) (ha : ILL w A n xss) (hb : ILL w B m xss) :
    Calls Try.prog 30 #[.slice A n c, .slice B m d, .func (.func 67) #[] #[]] w fun e w' => e = .returned (.bool true) ∧ Below w.heap.size w w' := by
  have hnm : n = m := by rw [← ha.len, ← hb.len]
  subst hnm
  have hsm := ha.small
  go_enter Try.func30, Try.ntmps30
  go_wp2
  go_loopw [17] (fun i wr => ∃ k : Nat, k ≤ n ∧ i = .int .i64 k ∧ Below w.heap.size w wr) (fun i _ => n - (intOf i).toNat)
  case atStart => exact ⟨0, Nat.zero_le _, rfl, Below.refl _ _⟩
  case round =>
    obtain ⟨k, hk, rfl, hnx⟩ := hrel
    have ha' := ha.below hnx
    have hb' := hb.below hnx
    have HA := hide (And.intro ha hb)
    clear ha hb
    by_cases hlt : k < n
    · obtain ⟨ad, B8, m8, d8, rfl, hc8, hi8⟩ := ha'.at_ hlt
      obtain ⟨bd, B9, m9, d9, rfl, hc9, hi9⟩ := hb'.at_ hlt
      have HC := hide (form1_any B8 B9 m8 m9 d8 d9 _ _ wr hi8 hi9)
      have HE : Hid (eqB (xss.getD k []) (xss.getD k []) = true) := eqB_true rfl
      rw [HE.out] at HC
      clear ha' hb' hi8 hi9
      go_wp2_with fail
      refine HC.out.mono ?_
      rintro e w2 ⟨rfl, hb2⟩
      have hb02 := hnx.trans (hb2.mono hnx.size)
      clear hb2
      go_wp2
      go_roundw
      case rel => exact ⟨k + 1, by omega, by go_num, hb02⟩
      case measure => simp [intOf]; omega
    · go_wp2
      go_ret
      exact ⟨rfl, hnx⟩


theorem nf_m1 : NFw 3 [-1] (-1) [[2, 0, 1]] := by
  have hp : isP [2, 0, 1] := ⟨by decide, by decide⟩
  have hpl : PL 3 [[2, 0, 1]] := fun p h => by simp at h; subst h; exact ⟨hp, rfl⟩
  refine ⟨hpl, ⟨(elt_spec hp rfl).1, fun a ha => ?_, fun a ha => ?_⟩, ?_, fun h => by omega⟩
  · simp at ha
    subst ha
    rw [Ne, elt_one (n := 3) hp rfl]
    decide
  · simp at ha
    subst ha
    rw [Ne, elt_full (n := 3) hp rfl]
    decide
  · rw [← gp_wri (-1) hpl, show wriW 3 (-1) [[2, 0, 1]] = [-1, -2, -1, 1, 2] by decide +kernel]
    have h1 := gp_pair 3 (-1)
    have h2 := gp_pair 3 (-2)
    rw [show (- -1 : Int) = 1 from rfl] at h1
    rw [show (- -2 : Int) = 2 from rfl] at h2
    rw [gp_cons (-1) [-2, -1, 1, 2], gp_cons (-2) [-1, 1, 2], gp_cons (-1) [1, 2], gp_cons 1 [2], ← G_assoc (gp 3 [-1]) (gp 3 [1]), h1, G_one_mul, h2, G_mul_one]

set_option maxRecDepth 100000 in
set_option maxHeartbeats 2000000 in
theorem formed_k (F : GarC) (w : World) : Calls Try.prog 26 #[] w fun e w' => e = .returned (.bool true) ∧ Below w.heap.size w w' := by
  have HF := hide F
  clear F
  go_enter Try.func26, Try.ntmps26
  go_wp2_with fail
  have hl1 := SL.lit w [-1] (by decide) rfl rfl
  have hb0 := (Below.refl w.heap.size w).alloc (Nat.le_refl _) (.cells #[.int .i64 (-1)] 3)
  refine (HF.out.normal 3 _ 1 1 [-1] _ hl1 (by decide)).mono ?_
  rintro e w1 ⟨k, l, A, n, c, rfl, hs, hb, h1, _⟩
  have h0 : bfault 3 [-1] = 0 := by decide
  obtain ⟨rfl, rfl⟩ := (h1 h0).unique (by decide) nf_m1 rfl
  rw [h0]
  have hn := hs.len
  simp at hn
  subst hn
  obtain ⟨ad, B, m, d, rfl, hcl, hr⟩ := hs.at_ (k := 0) (by omega)
  have hz : ([[2, 0, 1]].map zs).getD 0 [] = [2, 0, 1] := by decide
  rw [hz] at hr
  have e0 : ad.add 0 = ad := by unfold Addr.add; simp
  rw [e0] at hcl
  have hm := hr.il.len
  simp at hm
  subst hm
  have HS := hide hr
  have HB := hide (hb0.trans (hb.mono hb0.size))
  have hblk := cell_lt hcl
  have hal : Below w1.heap.size w1 (w1.alloc (.cells #[.int .i64 2, .int .i64 0, .int .i64 1] 3)) := (Below.refl _ _).alloc (Nat.le_refl _) _
  have HLIT := hide (SL.lit w1 [2, 0, 1] (by decide) (cs := #[.int .i64 2, .int .i64 0, .int .i64 1]) rfl (m := 3) rfl)
  have HAL := hide hal
  clear hl1 hb0 hs hb h1 h0 hr hal
  go_wp2_with fail
  refine (equal_any B _ 3 3 d 3 _ _ _ (HS.out.below HAL.out).il HLIT.out.il).mono ?_
  rintro e w3 ⟨rfl, hb3⟩
  rw [eqB_true rfl]
  have HB3 := hide (HB.out.trans ((HAL.out.trans (hb3.mono HAL.out.size)).mono HB.out.size))
  clear hb3
  go_wp2_with fail
  go_ret
  exact ⟨rfl, HB3.out⟩

/-- Normal forms of words that are equal in the group. -/
def GivesForms (w : World) (e : Ending) (w' : World) : Prop := e = .returned (.bool true) ∧ Below w.heap.size w w'
set_option maxRecDepth 100000 in
set_option maxHeartbeats 2000000 in
theorem forms_any (F : GarC) (m : Int) (A : Option Addr) (n c : Nat) (xs : List Int) (B : Option Addr) (l d : Nat) (ys : List Int) (w : World) (ha : SL w A n c xs) (hb : SL w B l d ys) (hm : (Lit.int .i64 m).wf = true) (h2 : 2 ≤ m)
    (fx : bfault m xs = 0) (fy : bfault m ys = 0) (e : gp m.toNat xs = gp m.toNat ys) :
    Calls Try.prog 27 #[.int .i64 m, .slice A n c, .slice B l d] w (GivesForms w) := by
  have HF := hide F
  have HE := hide e
  have HM := hide hm
  have HX := hide fx
  have HY := hide fy
  have HB := hide hb
  have HA := hide ha
  clear F e ha hb hm fx fy
  go_enter Try.func27, Try.ntmps27
  go_wp2_with fail
  refine (HF.out.normal m A n c xs w HA.out HM.out).mono ?_
  rintro e w1 ⟨k1, l1, A1, n1, c1, rfl, hs1, hb1, g1, _⟩
  rw [HX.out]
  have G1 := hide (g1 HX.out)
  replace HB := hide (HB.out.below hb1)
  have HS1 := hide hs1
  have HW := hide hb1
  clear hs1 hb1 g1
  go_wp2_with fail
  refine (HF.out.normal m B l d ys w1 HB.out HM.out).mono ?_
  rintro e w2 ⟨k2, l2, A2, n2, c2, rfl, hs2, hb2, g2, _⟩
  rw [HY.out]
  obtain ⟨rfl, rfl⟩ := G1.out.unique (by omega) (g2 HY.out) HE.out
  replace HS1 := hide (HS1.out.below hb2)
  have HS2 := hide hs2
  replace HW := hide (HW.out.trans (hb2.mono HW.out.size))
  clear hs2 hb2 g2 G1
  have hkk : (k1 == k1) = true := by simp
  go_wp2_with fail
  refine (formFunc_yes A1 A2 n1 n2 c1 c2 _ _ HS1.out.ill HS2.out.ill).mono ?_
  rintro e w3 ⟨rfl, hb3⟩
  replace HW := hide (HW.out.trans (hb3.mono HW.out.size))
  clear hb3
  go_wp2_with fail
  go_ret
  exact ⟨rfl, HW.out⟩
end Go.Proofs.Ytoaiblhlpdaeoaa
/- timbref1.Image. (Written by tools/gen_image.py.) -/
namespace Go.Proofs.Ytoaiblhlpdaeoaa
set_option linter.unusedVariables false
set_option linter.unusedSimpArgs false
open Go.RowKit

def bz (B : Nat) (u : List Int) : Prop := ∀ z ∈ u, z ≠ 0 ∧ z.natAbs ≤ B
theorem bz.nz {B : Nat} {u : List Int} (h : bz B u) : Proofs.Ytoaiblhlpdaeoaa.nz u := fun z hz => (h z hz).1
theorem bz.inv {B : Nat} {u : List Int} (h : bz B u) : bz B (invw u) := fun z hz => by
  have : ∃ x ∈ u, -x = z := by simpa [invw] using hz
  obtain ⟨x, hx, rfl⟩ := this
  have := h x hx
  omega
end Go.Proofs.Ytoaiblhlpdaeoaa
/- GarsideEquals. -/
namespace Go.Proofs.Ytoaiblhlpdaeoaa
set_option linter.unusedVariables false
set_option linter.unusedSimpArgs false
open Go.RowKit Gar

theorem okB_Lo {n : Nat} {w : List Int} (h : okB n w) : Lo n 0 w := fun x hx => ⟨h x hx, by have := (h x hx).1; omega⟩
end Go.Proofs.Ytoaiblhlpdaeoaa
/- timbmake.Strands; timbkeep1.sides. -/
namespace Go.Proofs.Ytoaiblhlpdaeoaa
set_option linter.unusedVariables false
set_option linter.unusedSimpArgs false
open Go.RowKit

set_option maxRecDepth 100000 in
theorem strands_any (n : Int) (w : World) : Calls Try.prog 23 #[.int .i64 n, .int .i64 6] w fun e w' => ∃ T : Nat, 1 ≤ T ∧ T ≤ 5 ∧ e = .returned (.int .i64 ((T : Int) + 1)) ∧ w' = w := by
  obtain ⟨p, hp⟩ : ∃ p : Nat, n % 5 = (p : Int) := ⟨(n % 5).toNat, by omega⟩
  have hp5 : p < 5 := by omega
  have HP := hide hp
  have hadd : IntKind.i64.wrap (2 + (p : Int)) = ((p + 1 : Nat) : Int) + 1 := by rw [IntKind.wrap_i64]; omega
  have HA := hide hadd
  clear hp hadd
  go_enter Try.func23, Try.ntmps23
  go_wp2_with fail
  refine (mbelow_any n 5 _ (by omega) (by omega)).mono ?_
  rintro e w1 ⟨rfl, hww⟩
  subst hww
  rw [show n % ((5 : Nat) : Int) = (p : Int) from HP.out]
  go_wp2_with ((with_reducible show wpList _ _ _ (Oper.mk _ (.binOp .add _ _ _) _ _ _ _ :: _) _ _); refine wpList_gives rfl (gives_add rfl rfl rfl HA.out) ?_)
  go_ret
  exact ⟨p + 1, by omega, by omega, by show Ending.returned (.int .i64 (2 + (p : Int))) = _; rw [show (2 : Int) + (p : Int) = ((p + 1 : Nat) : Int) + 1 by omega], rfl⟩

theorem wsum_cons (f : Int → Int) (x : Int) (w : List Int) : wsum f (x :: w) = f x + wsum f w := by simp [wsum]
theorem wsum_nil (f : Int → Int) : wsum f [] = 0 := rfl
/-- Two words that are equal by a relation. -/
structure Side (N : Nat) (xs ys : List Int) : Prop where
  b : RelB xs ys
  e : RelE xs ys
  x : LP.expo xs = LP.expo ys
  ok1 : okB N xs
  ok2 : okB N ys
  l1 : xs.length ≤ 3
  l2 : ys.length ≤ 3
  a : RelA xs ys
theorem side_inv {N : Nat} {a : Int} (h1 : 1 ≤ a) (h2 : a < N) : Side N [a, -a] [] := by
  obtain ⟨m, rfl⟩ : ∃ m : Nat, a = (m : Int) := ⟨a.toNat, by omega⟩
  refine ⟨relB_inv (by omega), relE_x (by omega), ?_, fun x hx => ?_, fun x hx => (by cases hx), (by simp), (by simp), relA_pn (by omega)⟩
  · show wsum Int.sign [_, _] = wsum Int.sign []
    simp only [wsum_cons, wsum_nil, Int.sign_neg]
    omega
  · simp at hx; rcases hx with rfl | rfl <;> omega
theorem side_braid {N : Nat} {a b : Int} (h1 : 1 ≤ a) (h2 : a < N) (h3 : 1 ≤ b) (h4 : b < N) (h : b = a + 1 ∨ a = b + 1) : Side N [a, b, a] [b, a, b] := by
  obtain ⟨m, rfl⟩ : ∃ m : Nat, a = (m : Int) := ⟨a.toNat, by omega⟩
  obtain ⟨k, rfl⟩ : ∃ k : Nat, b = (k : Int) := ⟨b.toNat, by omega⟩
  have ok : ∀ u v : Nat, 1 ≤ u → u < N → 1 ≤ v → v < N → okB N [(u : Int), (v : Int), (u : Int)] := fun u v a1 a2 a3 a4 x hx => by
    simp at hx; rcases hx with rfl | rfl | rfl <;> omega
  have hne : LP.expo [(m : Int), (k : Int), (m : Int)] = 3 ∧ LP.expo [(k : Int), (m : Int), (k : Int)] = 3 := by
    have hm : (0 : Int) < (m : Int) := by omega
    have hk : (0 : Int) < (k : Int) := by omega
    have e1 := Int.sign_eq_one_of_pos hm
    have e2 := Int.sign_eq_one_of_pos hk
    constructor
    · show wsum Int.sign [_, _, _] = 3
      simp only [wsum_cons, wsum_nil, e1, e2]
      rfl
    · show wsum Int.sign [_, _, _] = 3
      simp only [wsum_cons, wsum_nil, e1, e2]
      rfl
  rcases h with h | h
  · obtain rfl : k = m + 1 := by omega
    exact ⟨relB_braid (by omega), relE_braid (by omega), by rw [hne.1, hne.2], ok _ _ (by omega) (by omega) (by omega) (by omega), ok _ _ (by omega) (by omega) (by omega) (by omega), by simp, by simp, relA_braid (by omega)⟩
  · obtain rfl : m = k + 1 := by omega
    exact ⟨(relB_braid (by omega)).symm, fun s => (relE_braid (by omega) s).symm, by rw [hne.1, hne.2], ok _ _ (by omega) (by omega) (by omega) (by omega), ok _ _ (by omega) (by omega) (by omega) (by omega), by simp, by simp, (relA_braid (by omega)).symm⟩
theorem side_comm {N : Nat} {a b : Int} (h1 : 1 ≤ a) (h2 : a < N) (h3 : 1 ≤ b) (h4 : b < N) (h : a + 2 ≤ b ∨ b + 2 ≤ a) : Side N [a, -b] [-b, a] := by
  obtain ⟨m, rfl⟩ : ∃ m : Nat, a = (m : Int) := ⟨a.toNat, by omega⟩
  obtain ⟨k, rfl⟩ : ∃ k : Nat, b = (k : Int) := ⟨b.toNat, by omega⟩
  refine ⟨relB_comm (by omega) (by omega) (by omega), relE_comm (by omega) (by omega) (by omega), ?_, fun x hx => ?_, fun x hx => ?_, by simp, by simp, relA_comm (by omega) (by omega) (by omega)⟩
  · show wsum Int.sign [_, _] = wsum Int.sign [_, _]
    simp only [wsum_cons, wsum_nil]
    omega
  · simp at hx; rcases hx with rfl | rfl <;> omega
  · simp at hx; rcases hx with rfl | rfl <;> omega
/-- Two words out of a function. -/
def GivesSides (N : Nat) (w : World) (e : Ending) (w' : World) : Prop :=
  ∃ A n c B m d xs ys, e = .returned (.tuple #[.slice A n c, .slice B m d]) ∧ SL w' A n c xs ∧ SL w' B m d ys ∧ Side N xs ys ∧ Below w.heap.size w w'
set_option maxRecDepth 100000 in
set_option maxHeartbeats 2000000 in
theorem sides_braid (T : Nat) (hT : 1 ≤ T ∧ T ≤ 5) (i k : Int) (p q : Nat) (w : World) (hp : i % (T : Int) = p) (hq : k % (T : Int) = q) (hp5 : p < 5) (hq5 : q < 5) (h : q = p + 1 ∨ p = q + 1) (HS : Hid (Side (T + 1) [(1 + (p : Int)), (1 + (q : Int)), (1 + (p : Int))] [(1 + (q : Int)), (1 + (p : Int)), (1 + (q : Int))])) :
    Calls Try.prog 66 #[.int .i64 ((T : Int) + 1), .int .i64 i, .int .i64 k] w (GivesSides (T + 1) w) := by
  have HMX : Hid (max (1 + (p : Int) - (1 + (q : Int))) (1 + (q : Int) - (1 + (p : Int))) = 1) := hide (by omega)
  have HMY : Hid (max ((p : Int) - (q : Int)) ((q : Int) - (p : Int)) = 1) := hide (by omega)
  clear h
  have HP := hide hp
  have HQ := hide hq
  clear hp hq
  go_enter Try.func66, Try.ntmps66
  go_wp2_with fail
  refine (mbelow_any i T _ (by omega) (by omega)).mono ?_
  rintro e w1 ⟨rfl, hww⟩
  subst hww
  rw [HP.out]
  go_wp2_with fail
  refine (mbelow_any k T _ (by omega) (by omega)).mono ?_
  rintro e w1 ⟨rfl, hww⟩
  subst hww
  rw [HQ.out]
  go_wp2_with ((with_reducible show wpList _ _ _ (Oper.mk _ (.call { callee := .builtin .max, args := _, argTypes := _ }) _ _ _ _ :: _) _ _); first | refine wpList_gives rfl (gives_maxI rfl rfl rfl HMX.out) ?_ | refine wpList_gives rfl (gives_maxI rfl rfl rfl HMY.out) ?_)
  go_ret2
  have S1 := SL.lit w [(1 + (p : Int)), (1 + (q : Int)), (1 + (p : Int))] (by simp) (cs := #[.int .i64 (1 + (p : Int)), .int .i64 (1 + (q : Int)), .int .i64 (1 + (p : Int))]) rfl (m := 3) rfl
  have h1 : Below w.heap.size w (w.alloc (.cells #[.int .i64 (1 + (p : Int)), .int .i64 (1 + (q : Int)), .int .i64 (1 + (p : Int))] 3)) := (Below.refl _ _).alloc (Nat.le_refl _) _
  have h2 : Below (w.alloc (.cells #[.int .i64 (1 + (p : Int)), .int .i64 (1 + (q : Int)), .int .i64 (1 + (p : Int))] 3)).heap.size (w.alloc (.cells #[.int .i64 (1 + (p : Int)), .int .i64 (1 + (q : Int)), .int .i64 (1 + (p : Int))] 3)) ((w.alloc (.cells #[.int .i64 (1 + (p : Int)), .int .i64 (1 + (q : Int)), .int .i64 (1 + (p : Int))] 3)).alloc (.cells #[.int .i64 (1 + (q : Int)), .int .i64 (1 + (p : Int)), .int .i64 (1 + (q : Int))] 3)) := (Below.refl _ _).alloc (Nat.le_refl _) _
  have S2 := SL.lit (w.alloc (.cells #[.int .i64 (1 + (p : Int)), .int .i64 (1 + (q : Int)), .int .i64 (1 + (p : Int))] 3)) [(1 + (q : Int)), (1 + (p : Int)), (1 + (q : Int))] (by simp) (cs := #[.int .i64 (1 + (q : Int)), .int .i64 (1 + (p : Int)), .int .i64 (1 + (q : Int))]) rfl (m := 3) rfl
  rw [World.size_alloc] at S2
  exact ⟨_, _, _, _, _, _, _, _, rfl, S1.below h2, S2, HS.out, h1.trans (h2.mono h1.size)⟩
set_option maxRecDepth 100000 in
set_option maxHeartbeats 2000000 in
theorem sides_inv (T : Nat) (hT : 1 ≤ T ∧ T ≤ 5) (i k : Int) (p q : Nat) (w : World) (hp : i % (T : Int) = p) (hq : k % (T : Int) = q) (hp5 : p < 5) (hq5 : q < 5) (h : q = p) (HS : Hid (Side (T + 1) [(1 + (p : Int)), -(1 + (p : Int))] [])) :
    Calls Try.prog 66 #[.int .i64 ((T : Int) + 1), .int .i64 i, .int .i64 k] w (GivesSides (T + 1) w) := by
  have HMX : Hid (max (0 : Int) 0 = 0) := hide (by omega)
  have HMY : Hid (max (1 + (p : Int) - (1 + (p : Int))) (1 + (p : Int) - (1 + (p : Int))) = 0) := hide (by omega)
  replace hq : k % (T : Int) = p := by rw [hq, h]
  clear h
  have HP := hide hp
  have HQ := hide hq
  clear hp hq
  go_enter Try.func66, Try.ntmps66
  go_wp2_with fail
  refine (mbelow_any i T _ (by omega) (by omega)).mono ?_
  rintro e w1 ⟨rfl, hww⟩
  subst hww
  rw [HP.out]
  go_wp2_with fail
  refine (mbelow_any k T _ (by omega) (by omega)).mono ?_
  rintro e w1 ⟨rfl, hww⟩
  subst hww
  rw [HQ.out]
  go_wp2_with ((with_reducible show wpList _ _ _ (Oper.mk _ (.call { callee := .builtin .max, args := _, argTypes := _ }) _ _ _ _ :: _) _ _); first | refine wpList_gives rfl (gives_maxI rfl rfl rfl HMX.out) ?_ | refine wpList_gives rfl (gives_maxI rfl rfl rfl HMY.out) ?_)
  go_ret2
  have S1 := SL.lit w [(1 + (p : Int)), (-(1 + (p : Int)))] (by simp) (cs := #[.int .i64 (1 + (p : Int)), .int .i64 (-(1 + (p : Int)))]) rfl (m := 2) rfl
  have h1 : Below w.heap.size w (w.alloc (.cells #[.int .i64 (1 + (p : Int)), .int .i64 (-(1 + (p : Int)))] 3)) := (Below.refl _ _).alloc (Nat.le_refl _) _
  exact ⟨_, _, _, _, _, _, _, _, rfl, S1, SL.nil_ _, HS.out, h1⟩
set_option maxRecDepth 100000 in
set_option maxHeartbeats 2000000 in
theorem sides_comm (T : Nat) (hT : 1 ≤ T ∧ T ≤ 5) (i k : Int) (p q : Nat) (w : World) (hp : i % (T : Int) = p) (hq : k % (T : Int) = q) (hp5 : p < 5) (hq5 : q < 5) (h : q + 2 ≤ p ∨ p + 2 ≤ q) (HS : Hid (Side (T + 1) [(1 + (p : Int)), -(1 + (q : Int))] [-(1 + (q : Int)), (1 + (p : Int))])) :
    Calls Try.prog 66 #[.int .i64 ((T : Int) + 1), .int .i64 i, .int .i64 k] w (GivesSides (T + 1) w) := by
  obtain ⟨D, hD⟩ : ∃ D : Nat, max ((p : Int) - (q : Int)) ((q : Int) - (p : Int)) = D := ⟨(max ((p : Int) - (q : Int)) ((q : Int) - (p : Int))).toNat, by omega⟩
  have hD2 : 2 ≤ D := by omega
  have HMY := hide hD
  have HMX : Hid (max (1 + (p : Int) - (1 + (q : Int))) (1 + (q : Int) - (1 + (p : Int))) = D) := hide (by omega)
  have t1 : ((D : Int) == 1) = false := by simp; omega
  have t2 : ((D : Int) == 0) = false := by simp; omega
  clear h hD
  have HP := hide hp
  have HQ := hide hq
  clear hp hq
  go_enter Try.func66, Try.ntmps66
  go_wp2_with fail
  refine (mbelow_any i T _ (by omega) (by omega)).mono ?_
  rintro e w1 ⟨rfl, hww⟩
  subst hww
  rw [HP.out]
  go_wp2_with fail
  refine (mbelow_any k T _ (by omega) (by omega)).mono ?_
  rintro e w1 ⟨rfl, hww⟩
  subst hww
  rw [HQ.out]
  go_wp2_with ((with_reducible show wpList _ _ _ (Oper.mk _ (.call { callee := .builtin .max, args := _, argTypes := _ }) _ _ _ _ :: _) _ _); first | refine wpList_gives rfl (gives_maxI rfl rfl rfl HMX.out) ?_ | refine wpList_gives rfl (gives_maxI rfl rfl rfl HMY.out) ?_)
  go_ret2
  have S1 := SL.lit w [(1 + (p : Int)), (-(1 + (q : Int)))] (by simp) (cs := #[.int .i64 (1 + (p : Int)), .int .i64 (-(1 + (q : Int)))]) rfl (m := 2) rfl
  have h1 : Below w.heap.size w (w.alloc (.cells #[.int .i64 (1 + (p : Int)), .int .i64 (-(1 + (q : Int)))] 3)) := (Below.refl _ _).alloc (Nat.le_refl _) _
  have h2 : Below (w.alloc (.cells #[.int .i64 (1 + (p : Int)), .int .i64 (-(1 + (q : Int)))] 3)).heap.size (w.alloc (.cells #[.int .i64 (1 + (p : Int)), .int .i64 (-(1 + (q : Int)))] 3)) ((w.alloc (.cells #[.int .i64 (1 + (p : Int)), .int .i64 (-(1 + (q : Int)))] 3)).alloc (.cells #[.int .i64 (-(1 + (q : Int))), .int .i64 (1 + (p : Int))] 3)) := (Below.refl _ _).alloc (Nat.le_refl _) _
  have S2 := SL.lit (w.alloc (.cells #[.int .i64 (1 + (p : Int)), .int .i64 (-(1 + (q : Int)))] 3)) [(-(1 + (q : Int))), (1 + (p : Int))] (by simp) (cs := #[.int .i64 (-(1 + (q : Int))), .int .i64 (1 + (p : Int))]) rfl (m := 2) rfl
  rw [World.size_alloc] at S2
  exact ⟨_, _, _, _, _, _, _, _, rfl, S1.below h2, S2, HS.out, h1.trans (h2.mono h1.size)⟩
theorem sides_any (T : Nat) (hT : 1 ≤ T ∧ T ≤ 5) (i k : Int) (w : World) : Calls Try.prog 66 #[.int .i64 ((T : Int) + 1), .int .i64 i, .int .i64 k] w (GivesSides (T + 1) w) := by
  have m1 := Int.emod_lt_of_pos i (show (0 : Int) < (T : Int) by omega)
  have m2 := Int.emod_nonneg i (show (T : Int) ≠ 0 by omega)
  have m3 := Int.emod_lt_of_pos k (show (0 : Int) < (T : Int) by omega)
  have m4 := Int.emod_nonneg k (show (T : Int) ≠ 0 by omega)
  obtain ⟨p, hp⟩ : ∃ p : Nat, i % (T : Int) = p := ⟨(i % (T : Int)).toNat, by omega⟩
  obtain ⟨q, hq⟩ : ∃ q : Nat, k % (T : Int) = q := ⟨(k % (T : Int)).toNat, by omega⟩
  have c : q = p ∨ (q = p + 1 ∨ p = q + 1) ∨ (q + 2 ≤ p ∨ p + 2 ≤ q) := by omega
  rcases c with h | h | h
  · exact sides_inv T hT i k p q w hp hq (by omega) (by omega) h (hide (side_inv (by omega) (by omega)))
  · exact sides_braid T hT i k p q w hp hq (by omega) (by omega) h (hide (side_braid (by omega) (by omega) (by omega) (by omega) (by omega)))
  · exact sides_comm T hT i k p q w hp hq (by omega) (by omega) h (hide (side_comm (by omega) (by omega) (by omega) (by omega) (by omega)))
end Go.Proofs.Ytoaiblhlpdaeoaa
/- timbkeep1.around; timbkeep1.matrices. (Written by tools/gen_around.py.) -/
namespace Go.Proofs.Ytoaiblhlpdaeoaa
set_option linter.unusedVariables false
set_option linter.unusedSimpArgs false
open Go.RowKit

theorem okB_word {T : Nat} {us : List Int} (h : ∀ x ∈ us, x ≠ 0 ∧ x ≤ (T : Int) ∧ -(T : Int) ≤ x) : okB (T + 1) us := fun x hx => by have := h x hx; omega
/-- Two words that are equal by a relation, in the middle of others. -/
def GivesAround (N K : Nat) (w : World) (e : Ending) (w' : World) : Prop :=
  ∃ A n c B m d us vs xs ys, e = .returned (.tuple #[.slice A n c, .slice B m d]) ∧ SL w' A n c (us ++ xs ++ vs) ∧ SL w' B m d (us ++ ys ++ vs) ∧ Side N xs ys ∧ okB N us ∧ okB N vs ∧ us.length ≤ K ∧ vs.length ≤ K ∧ Below w.heap.size w w'

set_option maxRecDepth 100000 in
set_option maxHeartbeats 4000000 in
theorem around_any (T K : Nat) (kz : Int) (hkz : kz = (K : Int)) (hT : 1 ≤ T ∧ T ≤ 5) (hK : K ≤ 10) (A : Option Addr) (n c : Nat) (us : List Int) (B : Option Addr) (m d : Nat) (vs : List Int) (i k : Int) (w : World) (ha : SL w A n c us) (hb : SL w B m d vs) :
    Calls Try.prog 24 #[.int .i64 ((T : Int) + 1), .slice A n c, .slice B m d, .int .i64 i, .int .i64 k, .int .i64 kz] w (GivesAround (T + 1) K w) := by
  subst hkz
  have HA := hide ha
  have HB := hide hb
  have HW := hide (Below.refl w.heap.size w)
  clear ha hb
  go_enter Try.func24, Try.ntmps24
  go_wp2_with fail
  refine (sides_any T hT i k _).mono ?_
  rintro e w1 ⟨P, pn, pc, Q, qn, qc, xs, ys, rfl, hs1, hs2, hsd, hb⟩
  replace HA := hide (HA.out.below hb)
  replace HB := hide (HB.out.below hb)
  replace HW := hide (HW.out.trans (hb.mono HW.out.size))
  have SP := hide hs1
  have SQ := hide hs2
  have SD := hide hsd
  clear hb hs1 hs2 hsd
  go_wp2_with fail
  refine (word_any A T n c K us _ HA.out.il HA.out.cap (by omega) (by omega) (by omega)).mono ?_
  rintro e w2 ⟨us2, U, un, uc, rfl, ho, hok, hl, hb⟩
  replace HA := hide (HA.out.below hb)
  replace HB := hide (HB.out.below hb)
  replace HW := hide (HW.out.trans (hb.mono HW.out.size))
  replace SP := hide (SP.out.below hb)
  replace SQ := hide (SQ.out.below hb)
  have SU := hide ho.sl
  have OU := hide (okB_word hok)
  have LU := hide hl
  have NU := hide ho.sl.il.len
  clear hb ho hok hl
  go_wp2_with fail
  refine (word_any B T m d K vs _ HB.out.il HB.out.cap (by omega) (by omega) (by omega)).mono ?_
  rintro e w3 ⟨vs2, V, vn, vc, rfl, ho, hok, hl, hb⟩
  replace HA := hide (HA.out.below hb)
  replace HB := hide (HB.out.below hb)
  replace HW := hide (HW.out.trans (hb.mono HW.out.size))
  replace SP := hide (SP.out.below hb)
  replace SQ := hide (SQ.out.below hb)
  replace SU := hide (SU.out.below hb)
  have SV := hide ho.sl
  have OV := hide (okB_word hok)
  have LV := hide hl
  have NV := hide ho.sl.il.len
  clear hb ho hok hl
  go_wp2_with fail
  have HLIT := hide (show ILL (w3.alloc (.cells #[.slice U un uc, .slice P pn pc, .slice V vn vc] 22)) (some ⟨w3.heap.size, 0, none⟩) 3 [us2, xs, vs2] from
    ILL.lit (vs := [.slice U un uc, .slice P pn pc, .slice V vn vc]) rfl (by simp) (fun j hj => by
      match j, hj with
      | 0, _ => exact ⟨_, _, _, rfl, SU.out.il⟩
      | 1, _ => exact ⟨_, _, _, rfl, SP.out.il⟩
      | 2, _ => exact ⟨_, _, _, rfl, SV.out.il⟩
      | j + 3, h => exact absurd h (by simp)) rfl rfl)
  have hal : Below w3.heap.size w3 (w3.alloc (.cells #[.slice U un uc, .slice P pn pc, .slice V vn vc] 22)) := (Below.refl _ _).alloc (Nat.le_refl _) _
  have hfl : [us2, xs, vs2].flatten = us2 ++ xs ++ vs2 := by simp
  refine (concat_any (some ⟨w3.heap.size, 0, none⟩) 3 3 _ _ HLIT.out (by rw [hfl]; simp only [List.length_append]; have := SD.out.l1; have := SD.out.l2; have := LU.out; have := LV.out; have := NU.out; have := NV.out; omega)).mono ?_
  rintro e w4 ⟨D, dn, dc, rfl, ho, hb0⟩
  have hb := hal.trans (hb0.mono hal.size)
  rw [hfl] at ho
  replace HA := hide (HA.out.below hb)
  replace HB := hide (HB.out.below hb)
  replace HW := hide (HW.out.trans (hb.mono HW.out.size))
  replace SP := hide (SP.out.below hb)
  replace SQ := hide (SQ.out.below hb)
  replace SU := hide (SU.out.below hb)
  replace SV := hide (SV.out.below hb)
  have S1 := hide ho.sl
  clear ho hb0 hal hfl HLIT hb
  go_wp2_with fail
  have HLIT := hide (show ILL (w4.alloc (.cells #[.slice U un uc, .slice Q qn qc, .slice V vn vc] 22)) (some ⟨w4.heap.size, 0, none⟩) 3 [us2, ys, vs2] from
    ILL.lit (vs := [.slice U un uc, .slice Q qn qc, .slice V vn vc]) rfl (by simp) (fun j hj => by
      match j, hj with
      | 0, _ => exact ⟨_, _, _, rfl, SU.out.il⟩
      | 1, _ => exact ⟨_, _, _, rfl, SQ.out.il⟩
      | 2, _ => exact ⟨_, _, _, rfl, SV.out.il⟩
      | j + 3, h => exact absurd h (by simp)) rfl rfl)
  have hal : Below w4.heap.size w4 (w4.alloc (.cells #[.slice U un uc, .slice Q qn qc, .slice V vn vc] 22)) := (Below.refl _ _).alloc (Nat.le_refl _) _
  have hfl : [us2, ys, vs2].flatten = us2 ++ ys ++ vs2 := by simp
  refine (concat_any (some ⟨w4.heap.size, 0, none⟩) 3 3 _ _ HLIT.out (by rw [hfl]; simp only [List.length_append]; have := SD.out.l1; have := SD.out.l2; have := LU.out; have := LV.out; have := NU.out; have := NV.out; omega)).mono ?_
  rintro e w5 ⟨G, gn, gc, rfl, ho, hb0⟩
  have hb := hal.trans (hb0.mono hal.size)
  rw [hfl] at ho
  replace HA := hide (HA.out.below hb)
  replace HB := hide (HB.out.below hb)
  replace HW := hide (HW.out.trans (hb.mono HW.out.size))
  replace SP := hide (SP.out.below hb)
  replace SQ := hide (SQ.out.below hb)
  replace SU := hide (SU.out.below hb)
  replace SV := hide (SV.out.below hb)
  replace S1 := hide (S1.out.below hb)
  have S2 := hide ho.sl
  clear ho hb0 hal hfl HLIT hb
  go_wp2_with fail
  go_ret2
  exact ⟨D, dn, dc, G, gn, gc, us2, vs2, xs, ys, rfl, S1.out, S2.out, SD.out, OU.out, OV.out, by have := LU.out; have := NU.out; omega, by have := LV.out; have := NV.out; omega, HW.out⟩

end Go.Proofs.Ytoaiblhlpdaeoaa
