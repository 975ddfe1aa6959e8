/- Several texts in one. -/
import Derived.Test.YtoaiblhlpdaeoaaPart15
import Derived.Test.YtoaiblhlpdaeoaaPart3
import Derived.Test.YtoaiblhlpdaeoaaPart1
import Derived.Test.YtoaiblhlpdaeoaaPart6
import Derived.Test.YtoaiblhlpdaeoaaBase1
import Derived.Test.YtoaiblhlpdaeoaaPart2
import Derived.Test.YtoaiblhlpdaeoaaBase2
import Derived.Test.YtoaiblhlpdaeoaaPart7
import Derived.Test.YtoaiblhlpdaeoaaPart12
/- Package garside: Word; the contracts together. (Written by tools/gen_gword.py.) -/
namespace Go.Proofs.Ytoaiblhlpdaeoaa
set_option linter.unusedVariables false
set_option linter.unusedSimpArgs false
open Go.RowKit

theorem half_fault {n : Nat} (h1 : 2 ≤ n) (h6 : n ≤ 6) : bfault (n : Int) (halfW n) = 0 :=
  bfault_ok (by omega) (by omega) (by have := (half_len h1 h6).2.1; omega) fun x hx => by have := okB_half n x hx; omega
set_option maxRecDepth 100000 in
set_option maxHeartbeats 8000000 in
theorem gWord_any (m k : Int) (A : Option Addr) (l c : Nat) (xss : List (List Int)) (w : World) (ha : SLL w A l c xss) (hm : (Lit.int .i64 m).wf = true) (hkw : (Lit.int .i64 k).wf = true) :
    Calls Try.prog 19 #[.int .i64 m, .int .i64 k, .slice A l c] w (GivesLE w (wordE m k xss) (wordL m k xss)) := by
  have HCK := hide (gcheck_any m A l c xss w ha hm)
  have HA := hide ha
  have HWM := hide hm
  clear ha hm
  by_cases h0 : ffE m xss = 0
  case neg =>
    have HE : Hid (wordE m k xss = ffE m xss) := hide (by unfold wordE; rw [if_pos h0])
    have HV : Hid (wordL m k xss = []) := hide (by unfold wordL; rw [HE.out, if_neg h0])
    obtain ⟨f, hf⟩ : ∃ f, ffE m xss = f := ⟨_, rfl⟩
    have HF := hide hf
    rw [hf] at h0
    have hne : (f != 0) = true := by simpa using h0
    clear hf h0
    go_enter Try.func19, Try.ntmps19
    go_wp2_with fail
    refine HCK.out.mono ?_
    rintro e w1 ⟨rfl, hb⟩
    rw [HF.out]
    have HB := hide hb
    clear hb
    go_wp2_with fail
    go_ret2
    rw [HE.out, HV.out, HF.out]
    exact ⟨none, 0, 0, rfl, SL.nil_ _, HB.out⟩
  by_cases h30 : 30 < k.natAbs
  · have HE : Hid (wordE m k xss = 2) := hide (by unfold wordE; rw [if_neg (by simp [h0]), if_pos h30])
    have HV : Hid (wordL m k xss = []) := hide (by unfold wordL; rw [HE.out, if_neg (by decide)])
    have HF := hide h0
    have hkk : k < -30 ∨ 30 < k := by omega
    clear h0 h30
    rcases hkk with hk | hk
    · have hd1 : decide (k < -30) = true := decide_eq_true hk
      clear hk
      go_enter Try.func19, Try.ntmps19
      go_wp2_with fail
      refine HCK.out.mono ?_
      rintro e w1 ⟨rfl, hb⟩
      rw [HF.out]
      have HB := hide hb
      clear hb
      go_wp2_with fail
      go_ret2
      rw [HE.out, HV.out]
      exact ⟨none, 0, 0, rfl, SL.nil_ _, HB.out⟩
    · have hd1 : decide (k < -30) = false := decide_eq_false (by omega)
      have hd2 : decide ((30 : Int) < k) = true := decide_eq_true hk
      clear hk
      go_enter Try.func19, Try.ntmps19
      go_wp2_with fail
      refine HCK.out.mono ?_
      rintro e w1 ⟨rfl, hb⟩
      rw [HF.out]
      have HB := hide hb
      clear hb
      go_wp2_with fail
      go_ret2
      rw [HE.out, HV.out]
      exact ⟨none, 0, 0, rfl, SL.nil_ _, HB.out⟩
  obtain ⟨n, ps, rfl, h2, h6, rfl, hpl, hPL, _⟩ := ffE_ok h0
  have HE : Hid (wordE (n : Int) k (ps.map zs) = if 30 < (wriW n k ps).length then 2 else 0) := hide (by unfold wordE; rw [if_neg (by simp [h0]), if_neg h30, Int.toNat_natCast, nlL_zs])
  have HV : Hid (wordL (n : Int) k (ps.map zs) = if 30 < (wriW n k ps).length then [] else wriW n k ps) := hide (by
    unfold wordL
    rw [HE.out, Int.toNat_natCast, nlL_zs]
    split
    · rw [if_neg (by decide)]
    · rw [if_pos rfl])
  have HF := hide h0
  have HP := hide hPL
  have HL : Hid (ps.length = l) := hide (by have := HA.out.len; rwa [List.length_map] at this)
  have hl30 : l ≤ 30 := by rw [← HL.out]; exact hpl
  have hd1 : decide (k < -30) = false := decide_eq_false (by omega)
  have hd2 : decide ((30 : Int) < k) = false := decide_eq_false (by omega)
  obtain ⟨q1, q2, _⟩ := half_len h2 h6
  have HQ1 := hide q1
  have HQ2 := hide q2
  have HOK := hide (okB_half n)
  obtain ⟨i0, hi0, hz0, hz1, hz2⟩ := info_parts int_info
  have HI0 := hide hi0
  have HZ0 := hide hz0
  have HZ1 := hide hz1
  have HZ2 := hide hz2
  clear h0 hpl hPL q1 q2 hi0 hz0 hz1 hz2
  go_enter Try.func19, Try.ntmps19
  go_wp2_with fail
  refine HCK.out.mono ?_
  rintro e w0 ⟨rfl, hb⟩
  rw [HF.out]
  have HW := hide hb
  clear hb HCK
  go_wp2_with fail
  refine (ghalf_any n w0 (by omega)).mono ?_
  rintro e w1 ⟨F, fn, fc, rfl, ho, hb⟩
  have hfn : fn = n := by have := ho.len; rw [zs_length, (full_isP n).2] at this; exact this.symm
  subst hfn
  replace HW := hide (HW.out.trans (hb.mono HW.out.size))
  have HS := hide (gword_any F fn fc _ w1 ho.sl (full_isP fn).1 (full_isP fn).2 (by omega) h6)
  clear hb ho
  go_wp2_with fail
  refine HS.out.mono ?_
  rintro e w2 ⟨H, hn, hc, rfl, ho, hb⟩
  change OwnI w2 w1.heap.size H hn hc (halfW fn) at ho
  have hhn := ho.len
  replace HW := hide (HW.out.trans (hb.mono HW.out.size))
  have HH := hide ho.sl
  have HHN := hide hhn
  have hq1 := HQ1.out
  have hq2 := HQ2.out
  rw [hhn] at hq1 hq2
  clear hb ho hhn HS
  by_cases hneg : k < 0
  · obtain ⟨q, hq⟩ : ∃ q : Nat, k = -(q : Int) := ⟨k.natAbs, by omega⟩
    subst hq
    have hq30 : q ≤ 30 := by omega
    have hwq : IntKind.i64.wrap (- -(q : Int)) = (q : Int) := by rw [IntKind.wrap_i64]; omega
    have hmx : max (-(q : Int)) (- -(q : Int)) = (q : Int) := by omega
    have hmx2 : max (-(q : Int)) (q : Int) = (q : Int) := by omega
    have HPW : Hid (powW fn (-(q : Int)) = rep (invw (halfW fn)) q) := hide (by unfold powW; rw [if_pos hneg, show (-(q : Int)).natAbs = q by omega])
    have HBI := hide (binv_any (fn : Int) H hn hc _ w2 HH.out (wfI (by omega)))
    have hfz := half_fault h2 h6
    rw [hfz, show invB (fn : Int) (halfW fn) = invw (halfW fn) by unfold invB; rw [if_pos hfz]] at HBI
    clear hfz
    go_wp2_with fail
    refine HBI.out.mono ?_
    rintro e w3 ⟨D, dn, dc, rfl, hs, hb⟩
    have hdn : dn = hn := by have := hs.il.len; rw [invw_length, HHN.out] at this; exact this.symm
    subst hdn
    replace HW := hide (HW.out.trans (hb.mono HW.out.size))
    have HRP := hide (repeat_all D dn dc q _ w3 hs.il hq1 (by omega) (by have := Nat.mul_le_mul hq30 hq2; omega))
    rw [← HPW.out] at HRP
    clear hb hs HBI
    go_wp2_with ((with_reducible show wpList _ _ _ (Oper.mk _ (.call { callee := .builtin .max, args := _, argTypes := _ }) _ _ _ _ :: _) _ _); refine wpList_gives rfl (gives_maxI rfl rfl rfl (by first | exact hmx | exact hmx2)) ?_)
    refine HRP.out.mono ?_
    rintro e w4 ⟨R, rn, rc, rfl, ho, hb⟩
    have hrn : rn ≤ 450 := by
      have h1 := ho.len
      rw [HPW.out, rep_length] at h1
      have h3 := invw_length (halfW fn)
      rw [h3, HHN.out] at h1
      have := Nat.mul_le_mul hq30 hq2
      omega
    have HPL := hide ho.len
    have HO : Hid (OwnI w4 w.heap.size R rn rc (powW fn (-(q : Int)) ++ facW (ps.take 0))) := hide (by
      rw [List.take_zero, show facW [] = [] from rfl, List.append_nil]
      exact ho.mono HW.out.size)
    replace HW := hide (HW.out.trans (hb.mono HW.out.size))
    clear hb ho HRP HPW hwq HH HHN hq1 hq2 hmx hmx2 hneg
    go_wp2_with fail
    go_loopw [10, 44] (fun ov iv wr => ∃ (j : Nat) (D : Option Addr) (dn dc : Nat), j ≤ l ∧ iv = .int .i64 j ∧ ov = .slice D dn dc ∧ Hid (OwnI wr w.heap.size D dn dc (powW fn (-(q : Int)) ++ facW (ps.take j))) ∧ Hid (Below w.heap.size w wr)) (fun _ iv _ => l - (intOf iv).toNat)
    case atStart => exact ⟨0, R, rn, rc, Nat.zero_le _, rfl, rfl, HO, HW⟩
    case round =>
      clear HO HW
      obtain ⟨j, D, dn, dc, hj, rfl, rfl, HO, HB⟩ := hrel
      by_cases hjl : j < l
      · have hjp : j < ps.length := by rw [HL.out]; exact hjl
        obtain ⟨ad, B, bm, bd, rfl, hcl, hr⟩ := (HA.out.below HB.out).at_ hjl
        have hpm : ps.getD j [] ∈ ps := by rw [show ps.getD j [] = ps[j] by simp [List.getD, hjp]]; exact List.getElem_mem _
        obtain ⟨pp1, pp2⟩ := HP.out _ hpm
        rw [show (ps.map zs).getD j [] = zs (ps.getD j []) by simp [List.getD, hjp]] at hr
        have hbm : bm = fn := by have := hr.il.len; rw [zs_length, pp2] at this; exact this.symm
        subst hbm
        have HSP := hide (gword_any B bm bd _ wr hr pp1 pp2 (by omega) h6)
        have HFT := hide (facW_take hjp)
        have hdn : dn ≤ 2000 := by
          have h1 := HO.out.len
          rw [List.length_append, HPL.out] at h1
          have h3 := facW_len (n := bm) (l := ps.take j) (fun p hp => (HP.out p (List.mem_of_mem_take hp)).2) h6
          rw [List.length_take] at h3
          omega
        have hwl : (wrd (ps.getD j [])).length ≤ 36 := by
          have h1 := wrd_len (ps.getD j [])
          rw [pp2] at h1
          have := Nat.mul_le_mul h6 h6
          omega
        have HWL := hide hwl
        have HJL := hide hjl
        clear hjp hr hpm pp1 pp2 hwl
        generalize ps.getD j [] = p at *
        go_wp2_with fail
        refine HSP.out.mono ?_
        rintro e w5 ⟨S, sn, sc, rfl, ho, hb⟩
        have hsn : sn ≤ 36 := by have := ho.len; have := HWL.out; omega
        have HS5 := hide ho.il
        have hO5 := HO.out.below hb
        have HO5 := hide hO5
        have HB5 := hide (HB.out.trans (hb.mono HB.out.size))
        have hsz5 := HB5.out.size
        clear hb ho hO5 HSP hcl
        go_wp2_with (at_builtin; refine wpList_append_int _ rfl (.tmp 48) (.tmp 50) 22 rfl w.heap.size i0 Try.underlying22 HI0.out HZ0.out HZ1.out HZ2.out D dn dc _ rfl HO5.out S sn sc (wrd p) rfl HS5.out (by omega) hsz5 ?_; intro A9 c9 w9 happ)
        have ho := happ.own
        rw [List.append_assoc, ← HFT.out] at ho
        have HO9 := hide ho
        have hb9 : Below w.heap.size w w9 := HB5.out.grown happ.grown hsz5 (fun b hb => (HO5.out.lt b (by rw [ownBlock_len D dn (dn + sn) dc dc]; exact hb)).1)
        have HB9 := hide hb9
        clear ho hb9 happ
        have hjl := HJL.out
        go_wp2_with fail
        go_roundw
        case rel => exact ⟨j + 1, A9, dn + sn, c9, by omega, by go_num, rfl, HO9, HB9⟩
        case measure => simp [intOf]; omega
      · have hjl2 : j = l := by omega
        have HEW : Hid (OwnI wr w.heap.size D dn dc (wriW fn (-(q : Int)) ps)) := hide (by
          have h := HO.out
          rw [hjl2, List.take_of_length_le (by rw [HL.out]; exact Nat.le_refl _)] at h
          exact h)
        have HLN := hide HEW.out.len
        clear HO hjl2
        by_cases h31 : 30 < dn
        · have hdd : decide ((30 : Int) < (dn : Int)) = true := decide_eq_true (by omega)
          have HE2 := hide (HE.out.trans (if_pos (by rw [HLN.out]; exact h31)))
          have HV2 := hide (HV.out.trans (if_pos (by rw [HLN.out]; exact h31)))
          clear h31
          go_wp2_with fail
          go_ret2
          rw [HE2.out, HV2.out]
          exact ⟨none, 0, 0, rfl, SL.nil_ _, HB.out⟩
        · have hdd : decide ((30 : Int) < (dn : Int)) = false := decide_eq_false (by omega)
          have HE2 := hide (HE.out.trans (if_neg (by rw [HLN.out]; exact h31)))
          have HV2 := hide (HV.out.trans (if_neg (by rw [HLN.out]; exact h31)))
          clear h31
          go_wp2_with fail
          go_ret2
          rw [HE2.out, HV2.out]
          exact ⟨D, dn, dc, rfl, HEW.out.sl, HB.out⟩
  · obtain ⟨q, hq⟩ : ∃ q : Nat, k = (q : Int) := ⟨k.natAbs, by omega⟩
    subst hq
    have hq30 : q ≤ 30 := by omega
    have hwq : IntKind.i64.wrap (-(q : Int)) = -(q : Int) := by rw [IntKind.wrap_i64]; omega
    have hmx : max (q : Int) (-(q : Int)) = (q : Int) := by omega
    have hmx2 : True := trivial
    have HPW : Hid (powW fn (q : Int) = rep (halfW fn) q) := hide (by unfold powW; rw [if_neg hneg, Int.natAbs_natCast])
    have HRP := hide (repeat_all H hn hc q _ w2 HH.out.il hq1 (by omega) (by have := Nat.mul_le_mul hq30 hq2; omega))
    rw [← HPW.out] at HRP
    go_wp2_with ((with_reducible show wpList _ _ _ (Oper.mk _ (.call { callee := .builtin .max, args := _, argTypes := _ }) _ _ _ _ :: _) _ _); refine wpList_gives rfl (gives_maxI rfl rfl rfl (by first | exact hmx | exact hmx2)) ?_)
    refine HRP.out.mono ?_
    rintro e w4 ⟨R, rn, rc, rfl, ho, hb⟩
    have hrn : rn ≤ 450 := by
      have h1 := ho.len
      rw [HPW.out, rep_length] at h1
      rw [HHN.out] at h1
      have := Nat.mul_le_mul hq30 hq2
      omega
    have HPL := hide ho.len
    have HO : Hid (OwnI w4 w.heap.size R rn rc (powW fn (q : Int) ++ facW (ps.take 0))) := hide (by
      rw [List.take_zero, show facW [] = [] from rfl, List.append_nil]
      exact ho.mono HW.out.size)
    replace HW := hide (HW.out.trans (hb.mono HW.out.size))
    clear hb ho HRP HPW hwq HH HHN hq1 hq2 hmx hmx2 hneg
    go_wp2_with fail
    go_loopw [10, 44] (fun ov iv wr => ∃ (j : Nat) (D : Option Addr) (dn dc : Nat), j ≤ l ∧ iv = .int .i64 j ∧ ov = .slice D dn dc ∧ Hid (OwnI wr w.heap.size D dn dc (powW fn (q : Int) ++ facW (ps.take j))) ∧ Hid (Below w.heap.size w wr)) (fun _ iv _ => l - (intOf iv).toNat)
    case atStart => exact ⟨0, R, rn, rc, Nat.zero_le _, rfl, rfl, HO, HW⟩
    case round =>
      clear HO HW
      obtain ⟨j, D, dn, dc, hj, rfl, rfl, HO, HB⟩ := hrel
      by_cases hjl : j < l
      · have hjp : j < ps.length := by rw [HL.out]; exact hjl
        obtain ⟨ad, B, bm, bd, rfl, hcl, hr⟩ := (HA.out.below HB.out).at_ hjl
        have hpm : ps.getD j [] ∈ ps := by rw [show ps.getD j [] = ps[j] by simp [List.getD, hjp]]; exact List.getElem_mem _
        obtain ⟨pp1, pp2⟩ := HP.out _ hpm
        rw [show (ps.map zs).getD j [] = zs (ps.getD j []) by simp [List.getD, hjp]] at hr
        have hbm : bm = fn := by have := hr.il.len; rw [zs_length, pp2] at this; exact this.symm
        subst hbm
        have HSP := hide (gword_any B bm bd _ wr hr pp1 pp2 (by omega) h6)
        have HFT := hide (facW_take hjp)
        have hdn : dn ≤ 2000 := by
          have h1 := HO.out.len
          rw [List.length_append, HPL.out] at h1
          have h3 := facW_len (n := bm) (l := ps.take j) (fun p hp => (HP.out p (List.mem_of_mem_take hp)).2) h6
          rw [List.length_take] at h3
          omega
        have hwl : (wrd (ps.getD j [])).length ≤ 36 := by
          have h1 := wrd_len (ps.getD j [])
          rw [pp2] at h1
          have := Nat.mul_le_mul h6 h6
          omega
        have HWL := hide hwl
        have HJL := hide hjl
        clear hjp hr hpm pp1 pp2 hwl
        generalize ps.getD j [] = p at *
        go_wp2_with fail
        refine HSP.out.mono ?_
        rintro e w5 ⟨S, sn, sc, rfl, ho, hb⟩
        have hsn : sn ≤ 36 := by have := ho.len; have := HWL.out; omega
        have HS5 := hide ho.il
        have hO5 := HO.out.below hb
        have HO5 := hide hO5
        have HB5 := hide (HB.out.trans (hb.mono HB.out.size))
        have hsz5 := HB5.out.size
        clear hb ho hO5 HSP hcl
        go_wp2_with (at_builtin; refine wpList_append_int _ rfl (.tmp 48) (.tmp 50) 22 rfl w.heap.size i0 Try.underlying22 HI0.out HZ0.out HZ1.out HZ2.out D dn dc _ rfl HO5.out S sn sc (wrd p) rfl HS5.out (by omega) hsz5 ?_; intro A9 c9 w9 happ)
        have ho := happ.own
        rw [List.append_assoc, ← HFT.out] at ho
        have HO9 := hide ho
        have hb9 : Below w.heap.size w w9 := HB5.out.grown happ.grown hsz5 (fun b hb => (HO5.out.lt b (by rw [ownBlock_len D dn (dn + sn) dc dc]; exact hb)).1)
        have HB9 := hide hb9
        clear ho hb9 happ
        have hjl := HJL.out
        go_wp2_with fail
        go_roundw
        case rel => exact ⟨j + 1, A9, dn + sn, c9, by omega, by go_num, rfl, HO9, HB9⟩
        case measure => simp [intOf]; omega
      · have hjl2 : j = l := by omega
        have HEW : Hid (OwnI wr w.heap.size D dn dc (wriW fn (q : Int) ps)) := hide (by
          have h := HO.out
          rw [hjl2, List.take_of_length_le (by rw [HL.out]; exact Nat.le_refl _)] at h
          exact h)
        have HLN := hide HEW.out.len
        clear HO hjl2
        by_cases h31 : 30 < dn
        · have hdd : decide ((30 : Int) < (dn : Int)) = true := decide_eq_true (by omega)
          have HE2 := hide (HE.out.trans (if_pos (by rw [HLN.out]; exact h31)))
          have HV2 := hide (HV.out.trans (if_pos (by rw [HLN.out]; exact h31)))
          clear h31
          go_wp2_with fail
          go_ret2
          rw [HE2.out, HV2.out]
          exact ⟨none, 0, 0, rfl, SL.nil_ _, HB.out⟩
        · have hdd : decide ((30 : Int) < (dn : Int)) = false := decide_eq_false (by omega)
          have HE2 := hide (HE.out.trans (if_neg (by rw [HLN.out]; exact h31)))
          have HV2 := hide (HV.out.trans (if_neg (by rw [HLN.out]; exact h31)))
          clear h31
          go_wp2_with fail
          go_ret2
          rw [HE2.out, HV2.out]
          exact ⟨D, dn, dc, rfl, HEW.out.sl, HB.out⟩

theorem garC : GarC where
  normal := gnormal_any
  check := gcheck_any
  word := gWord_any
  equal := gequal_any
end Go.Proofs.Ytoaiblhlpdaeoaa
/- slices.EqualFunc for lists of lists that are the same: timbkeep1.forms, GarsideCenter; a fact about a normal form. -/
namespace Go.Proofs.Ytoaiblhlpdaeoaa
set_option linter.unusedVariables false
set_option linter.unusedSimpArgs false
open Go.RowKit Gar

theorem SLL.cut_zs {w : World} {A : Option Addr} {n c : Nat} {l : List (List Nat)} (h : SLL w A n c (l.map zs)) : l.length = n := by have := h.len; rwa [List.length_map] at this
theorem nf_m1 : NFw 3 [-1] (-1) [[2, 0, 1]] := by
  have hp : isP [2, 0, 1] := ⟨by decide, by decide⟩
  have hpl : PL 3 [[2, 0, 1]] := fun p h => by simp at h; subst h; exact ⟨hp, rfl⟩
  refine ⟨hpl, ⟨(elt_spec hp rfl).1, fun a ha => ?_, fun a ha => ?_⟩, ?_, fun h => by omega⟩
  · simp at ha
    subst ha
    rw [Ne, elt_one (n := 3) hp rfl]
    decide
  · simp at ha
    subst ha
    rw [Ne, elt_full (n := 3) hp rfl]
    decide
  · rw [← gp_wri (-1) hpl, show wriW 3 (-1) [[2, 0, 1]] = [-1, -2, -1, 1, 2] by decide +kernel]
    have h1 := gp_pair 3 (-1)
    have h2 := gp_pair 3 (-2)
    rw [show (- -1 : Int) = 1 from rfl] at h1
    rw [show (- -2 : Int) = 2 from rfl] at h2
    rw [gp_cons (-1) [-2, -1, 1, 2], gp_cons (-2) [-1, 1, 2], gp_cons (-1) [1, 2], gp_cons 1 [2], ← G_assoc (gp 3 [-1]) (gp 3 [1]), h1, G_one_mul, h2, G_mul_one]

set_option maxRecDepth 100000 in
set_option maxHeartbeats 2000000 in
theorem formed_k (F : GarC) (w : World) : Calls Try.prog 26 #[] w fun e w' => e = .returned (.bool true) ∧ Below w.heap.size w w' := by
  have HF := hide F
  clear F
  go_enter Try.func26, Try.ntmps26
  go_wp2_with fail
  have hl1 := SL.lit w [-1] (by decide) rfl rfl
  have hb0 := (Below.refl w.heap.size w).alloc (Nat.le_refl _) (.cells #[.int .i64 (-1)] 3)
  refine (HF.out.normal 3 _ 1 1 [-1] _ hl1 (by decide)).mono ?_
  rintro e w1 ⟨k, l, A, n, c, rfl, hs, hb, h1, _⟩
  have h0 : bfault 3 [-1] = 0 := by decide
  obtain ⟨rfl, rfl⟩ := (h1 h0).unique (by decide) nf_m1 rfl
  rw [h0]
  have hn := hs.len
  simp at hn
  subst hn
  obtain ⟨ad, B, m, d, rfl, hcl, hr⟩ := hs.at_ (k := 0) (by omega)
  have hz : ([[2, 0, 1]].map zs).getD 0 [] = [2, 0, 1] := by decide
  rw [hz] at hr
  have e0 : ad.add 0 = ad := by unfold Addr.add; simp
  rw [e0] at hcl
  have hm := hr.il.len
  simp at hm
  subst hm
  have HS := hide hr
  have HB := hide (hb0.trans (hb.mono hb0.size))
  have hblk := cell_lt hcl
  have hal : Below w1.heap.size w1 (w1.alloc (.cells #[.int .i64 2, .int .i64 0, .int .i64 1] 3)) := (Below.refl _ _).alloc (Nat.le_refl _) _
  have HLIT := hide (SL.lit w1 [2, 0, 1] (by decide) (cs := #[.int .i64 2, .int .i64 0, .int .i64 1]) rfl (m := 3) rfl)
  have HAL := hide hal
  clear hl1 hb0 hs hb h1 h0 hr hal
  go_wp2_with fail
  refine (equal_any B _ 3 3 d 3 _ _ _ (HS.out.below HAL.out).il HLIT.out.il).mono ?_
  rintro e w3 ⟨rfl, hb3⟩
  rw [eqB_true rfl]
  have HB3 := hide (HB.out.trans ((HAL.out.trans (hb3.mono HAL.out.size)).mono HB.out.size))
  clear hb3
  go_wp2_with fail
  go_ret
  exact ⟨rfl, HB3.out⟩

end Go.Proofs.Ytoaiblhlpdaeoaa
/- timbref1.Image. (Written by tools/gen_image.py.) -/
namespace Go.Proofs.Ytoaiblhlpdaeoaa
set_option linter.unusedVariables false
set_option linter.unusedSimpArgs false
open Go.RowKit

def bz (B : Nat) (u : List Int) : Prop := ∀ z ∈ u, z ≠ 0 ∧ z.natAbs ≤ B
theorem bz.nz {B : Nat} {u : List Int} (h : bz B u) : Proofs.Ytoaiblhlpdaeoaa.nz u := fun z hz => (h z hz).1
theorem bz.inv {B : Nat} {u : List Int} (h : bz B u) : bz B (invw u) := fun z hz => by
  have : ∃ x ∈ u, -x = z := by simpa [invw] using hz
  obtain ⟨x, hx, rfl⟩ := this
  have := h x hx
  omega
end Go.Proofs.Ytoaiblhlpdaeoaa
/- GarsideSame. -/
namespace Go.Proofs.Ytoaiblhlpdaeoaa
set_option linter.unusedVariables false
set_option linter.unusedSimpArgs false
open Go.RowKit Gar

theorem word_okB {T : Nat} {us : List Int} (h : ∀ x ∈ us, x ≠ 0 ∧ x ≤ (T : Int) ∧ -(T : Int) ≤ x) : okB (T + 1) us := fun x hx => by have := h x hx; omega
theorem bf_ok {n : Nat} (h1 : 1 ≤ n) (h6 : n ≤ 6) {w : List Int} (hw : okB n w) (hl : w.length ≤ 30) : bfault (n : Int) w = 0 := bfault_ok (by omega) (by omega) hl fun x hx => by have := hw x hx; omega
theorem eq2_ok {n : Nat} {a b : List Int} (h1 : bfault (n : Int) a = 0) (h2 : bfault (n : Int) b = 0) : eq2E (n : Int) a b = 0 := by unfold eq2E; rw [if_neg (by rw [h1]; simp), h2]
open Classical in
theorem geq_yes {n : Nat} {a b : List Int} (h1 : bfault (n : Int) a = 0) (h2 : bfault (n : Int) b = 0) (e : gp n a = gp n b) : geqB (n : Int) a b = true := by
  unfold geqB
  rw [Int.toNat_natCast, decide_eq_true (eq2_ok h1 h2), decide_eq_true e]
  rfl
end Go.Proofs.Ytoaiblhlpdaeoaa
/- timbmake.Strands for any greatest number; slices.Concat of two slices. -/
namespace Go.Proofs.Ytoaiblhlpdaeoaa
set_option linter.unusedVariables false
set_option linter.unusedSimpArgs false
open Go.RowKit

set_option maxRecDepth 100000 in
theorem strands_gen (n : Int) (K : Nat) (kz : Int) (hkz : kz = (K : Int) + 1) (h1 : 1 ≤ K) (hK : K ≤ 10) (w : World) : Calls Try.prog 23 #[.int .i64 n, .int .i64 kz] w fun e w' => ∃ T : Nat, 1 ≤ T ∧ T ≤ K ∧ e = .returned (.int .i64 ((T : Int) + 1)) ∧ w = w' := by
  subst hkz
  obtain ⟨p, hp⟩ : ∃ p : Nat, n % (K : Int) = (p : Int) := ⟨(n % (K : Int)).toNat, by have := Int.emod_nonneg n (show (K : Int) ≠ 0 by omega); omega⟩
  have hp5 : p < K := by have := Int.emod_lt_of_pos n (show (0 : Int) < (K : Int) by omega); omega
  have HP := hide hp
  have hadd : IntKind.i64.wrap (2 + (p : Int)) = ((p + 1 : Nat) : Int) + 1 := by rw [IntKind.wrap_i64]; omega
  have HA := hide hadd
  have hs1 : (K : Int) + 1 - 1 = (K : Int) := by omega
  have hs2 : IntKind.i64.wrap (K : Int) = (K : Int) := by rw [IntKind.wrap_i64]; omega
  clear hp hadd
  go_enter Try.func23, Try.ntmps23
  go_wp2_with fail
  refine (mbelow_any n K _ h1 (by omega)).mono ?_
  rintro e w1 ⟨rfl, hww⟩
  subst hww
  rw [HP.out]
  go_wp2_with ((with_reducible show wpList _ _ _ (Oper.mk _ (.binOp .add _ _ _) _ _ _ _ :: _) _ _); refine wpList_gives rfl (gives_add rfl rfl rfl HA.out) ?_)
  go_ret
  exact ⟨p + 1, by omega, by omega, by
    have e : IntKind.i64.wrap (2 + (p : Int)) = ((p + 1 : Nat) : Int) + 1 := HA.out
    first | rfl | (simp; omega) | (simp [e]; omega), rfl⟩
theorem concat2_any (A : Option Addr) (n c : Nat) (xs : List Int) (B : Option Addr) (m d : Nat) (ys : List Int) (w : World) (ha : SL w A n c xs) (hb : SL w B m d ys) (hl : xs.length + ys.length ≤ 1000000) :
    Calls Try.prog 29 #[.slice (some ⟨w.heap.size, 0, none⟩) 2 2] (w.alloc (.cells #[.slice A n c, .slice B m d] 22)) fun e w' => ∃ D dn dc, e = .returned (.slice D dn dc) ∧ OwnI w' w.heap.size D dn dc (xs ++ ys) ∧ Below w.heap.size w w' := by
  have hlit := (show ILL (w.alloc (.cells #[.slice A n c, .slice B m d] 22)) (some ⟨w.heap.size, 0, none⟩) 2 [xs, ys] from
    ILL.lit (vs := [.slice A n c, .slice B m d]) rfl (by simp) (fun j hj => by
      match j, hj with
      | 0, _ => exact ⟨_, _, _, rfl, ha.il⟩
      | 1, _ => exact ⟨_, _, _, rfl, hb.il⟩
      | j + 2, h => exact absurd h (by simp)) rfl rfl)
  have hal : Below w.heap.size w (w.alloc (.cells #[.slice A n c, .slice B m d] 22)) := (Below.refl _ _).alloc (Nat.le_refl _) _
  have hfl : [xs, ys].flatten = xs ++ ys := by simp
  refine (concat_any (some ⟨w.heap.size, 0, none⟩) 2 2 _ _ hlit (by rw [hfl, List.length_append]; exact hl)).mono ?_
  rintro e w2 ⟨D, dn, dc, rfl, ho, hb0⟩
  rw [hfl] at ho
  exact ⟨D, dn, dc, rfl, ho.mono hal.size, hal.trans (hb0.mono hal.size)⟩
end Go.Proofs.Ytoaiblhlpdaeoaa
/- GarsideCenter. -/
namespace Go.Proofs.Ytoaiblhlpdaeoaa
set_option linter.unusedVariables false
set_option linter.unusedSimpArgs false
open Go.RowKit Gar

theorem zp_one (n : Nat) : zp n 1 = dl n := by
  have := zp_nat n 1
  rw [show ((1 : Nat) : Int) = 1 from rfl] at this
  rw [this]
  exact G_mul_one _
theorem gp_full2 (n : Nat) : gp n (halfW n ++ halfW n) = zp n 2 := by
  rw [← gp_mul, gp_half, ← zp_one, zp_addI]
  rfl
theorem NFw.full {n : Nat} (h2 : 2 ≤ n) {xs : List Int} {k : Int} {l : List (List Nat)} (h : NFw n xs k l) : NFw n (halfW n ++ halfW n ++ xs) (k + 2) l := by
  refine ⟨h.pl, h.nf, ?_, fun e => by omega⟩
  rw [show gp n (halfW n ++ halfW n ++ xs) = gp n (halfW n ++ halfW n) * gp n xs from rfl, gp_full2, ← h.val]
  unfold nfv
  rw [← G_assoc, zp_addI, Int.add_comm]
end Go.Proofs.Ytoaiblhlpdaeoaa
/- GarsideInverse. -/
namespace Go.Proofs.Ytoaiblhlpdaeoaa
set_option linter.unusedVariables false
set_option linter.unusedSimpArgs false
open Go.RowKit Gar

theorem SL.cut_ {w : World} {A : Option Addr} {n c l h : Nat} {xs : List Int} (ha : SL w A n c xs) (h1 : l ≤ h) (h2 : h ≤ n) : SL w (cutA A l c) (h - l) (c - l) ((xs.drop l).take (h - l)) :=
  ⟨ha.il.cut h1 h2 ha.cap, fun e => cutA_none ha.nil h1 h2 e, by have := ha.cap; omega⟩
theorem NFw.inv {n : Nat} (h2 : 2 ≤ n) {xs : List Int} {k i : Int} {l m : List (List Nat)} (h : NFw n xs k l) (g : NFw n (invw xs) i m) : m.length = l.length ∧ i = -k - (l.length : Int) := by
  obtain ⟨l', h1, h3, h4⟩ := nf_inv (k := k) h.nf
  have e : nfv n i (m.map elt) = nfv n (-k - ((l.map elt).length : Int)) l' := by
    rw [g.val, ← h4, h.val]
    rfl
  obtain ⟨e1, e2⟩ := nf_unique h2 g.nf h1 e
  have e3 := congrArg List.length e2
  rw [List.length_map] at e3
  rw [List.length_map] at e1 h3
  exact ⟨by omega, e1⟩
theorem inv_tail (xs : List Int) (h : Nat) (hh : h ≤ xs.length) : xs.take h ++ ((invw xs).drop (xs.length - h)) = xs.take h ++ invw (xs.take h) := by
  congr 1
  unfold invw
  rw [List.map_take, List.reverse_take, List.length_map]
theorem eConcatI : ∀ args w, (callFunc 29 args).run Try.prog w = .ok (.enter 29 args) w := enters (fn := Try.f29) (by kernel_rfl) (by kernel_rfl) (by kernel_rfl)
theorem eGEqual : ∀ args w, (callFunc 22 args).run Try.prog w = .ok (.enter 22 args) w := enters (fn := Try.f22) (by kernel_rfl) (by kernel_rfl) (by kernel_rfl)
theorem lints_info : (Try.prog.info? 22).map (fun i => (i.zero, i.size, i.bytes)) = some (some (.slice none 0 0), 1, 24) := by kernel_rfl

set_option maxRecDepth 100000 in
set_option maxHeartbeats 8000000 in
theorem garsideInverse_any (F : GarC) (FB : BraidC) (nn : Int) (A : Option Addr) (n c : Nat) (us : List Int) (w : World) (ha : SL w A n c us) :
    Calls Try.prog 8 #[.int .i64 nn, .slice A n c] w fun e w' => e = .returned (.bool true) ∧ Below w.heap.size w w' := by
  have HF := hide F
  have HFB := hide FB
  have HA := hide ha
  obtain ⟨i0, hi0, hz0, hz1, hz2⟩ := info_parts int_info
  obtain ⟨i1, hi1, hy0, hy1, hy2⟩ := info_parts lints_info
  have HI0 := hide hi0
  have HZ1 := hide hz1
  have HI1 := hide hi1
  have HY0 := hide hy0
  have HY1 := hide hy1
  clear F FB ha hi0 hz0 hz1 hz2 hi1 hy0 hy1 hy2
  have hnt := Bool.not_true
  go_enter Try.func8, Try.ntmps8
  go_wp2_with fail
  refine (strands_gen nn 5 6 rfl (by omega) (by omega) w).mono ?_
  rintro e w0 ⟨T, hT1, hT5, rfl, hww⟩
  subst hww
  have hw1 : IntKind.i64.wrap (T : Int) = (T : Int) := by rw [IntKind.wrap_i64]; omega
  have hs1 : (T : Int) + 1 - 1 = (T : Int) := by omega
  go_wp2_with fail
  refine (word_any A T n c 30 us w HA.out.il HA.out.cap (by omega) (by omega) (by omega)).mono ?_
  rintro e w1 ⟨xs, X, xn, xc, rfl, ho, hx, hxn, hb⟩
  have hxl := ho.len
  have SX := hide ho.sl
  have HW := hide hb
  have hok := word_okB hx
  obtain ⟨N, hN⟩ : ∃ N, T + 1 = N := ⟨_, rfl⟩
  rw [hN] at hok
  have hTi : (T : Int) + 1 = (N : Int) := by omega
  rw [hTi]
  have hN2 : 2 ≤ N := by omega
  have hN6 : N ≤ 6 := by omega
  have HOK := hide hok
  have HFX := hide (bf_ok (by omega) hN6 hok (by omega))
  have HFY := hide (bf_ok (w := invw xs) (by omega) hN6 (okB_inv hok) (by rw [invw_length]; omega))
  have HWM := hide (wfI (x := (N : Int)) (by omega))
  have HXL := hide hxl
  have hyB : invB (N : Int) xs = invw xs := by unfold invB; rw [HFX.out, if_pos rfl]
  have HIN := hide (HFB.out.inverse (N : Int) X xn xc xs w1 SX.out HWM.out)
  rw [HFX.out, hyB] at HIN
  clear ho hb hx hok HA hw1 hs1 hN hTi hxl hT1 hT5 hyB
  go_wp2_with fail
  refine HIN.out.mono ?_
  rintro e w2 ⟨Y, yn, yc, rfl, hs, hb⟩
  have hyn : yn = xn := by have := hs.il.len; rw [invw_length, HXL.out] at this; exact this.symm
  subst hyn
  replace SX := hide (SX.out.below hb)
  replace HW := hide (HW.out.trans (hb.mono HW.out.size))
  have SY := hide hs
  clear hb hs HIN
  go_wp2_with fail
  refine (formed_k HF.out w2).mono ?_
  rintro e w3 ⟨rfl, hb⟩
  replace SX := hide (SX.out.below hb)
  replace SY := hide (SY.out.below hb)
  replace HW := hide (HW.out.trans (hb.mono HW.out.size))
  clear hb
  have hyy : ((yn : Int) != (yn : Int)) = false := by simp
  go_wp2_with fail
  refine (HF.out.normal (N : Int) X yn xc xs w3 SX.out HWM.out).mono ?_
  rintro e w4 ⟨k, l, L, ln, lc, rfl, hs, hb, g, _⟩
  rw [HFX.out]
  have hnf := g HFX.out
  rw [Int.toNat_natCast] at hnf
  have hk1 := power_ge hN2 hnf.nf hnf.val
  have hk2 := power_le hN2 hnf.nf hnf.val
  have hl1 := factors_le hN2 hnf.nf hnf.val
  rw [List.length_map] at hl1
  rw [HXL.out] at hk1 hk2 hl1
  have hkb : k.natAbs ≤ 30 := by omega
  have hln : l.length = ln := hs.cut_zs
  have hlnb : ln ≤ 30 := by omega
  have HLN := hide hln
  have HNF := hide hnf
  replace SX := hide (SX.out.below hb)
  replace SY := hide (SY.out.below hb)
  replace HW := hide (HW.out.trans (hb.mono HW.out.size))
  clear hb hs g hnf hk1 hk2 hl1 hln
  go_wp2_with fail
  refine (HF.out.normal (N : Int) Y yn yc _ w4 SY.out HWM.out).mono ?_
  rintro e w5 ⟨i, m, L2, ln2, lc2, rfl, hs, hb, g, _⟩
  rw [HFY.out]
  have hnf := g HFY.out
  rw [Int.toNat_natCast] at hnf
  obtain ⟨g1, g2⟩ := HNF.out.inv hN2 hnf
  have hln2 : ln2 = ln := by have h1 : m.length = ln2 := hs.cut_zs; have := HLN.out; omega
  subst hln2
  rw [HLN.out] at g2
  subst g2
  replace SX := hide (SX.out.below hb)
  replace SY := hide (SY.out.below hb)
  replace HW := hide (HW.out.trans (hb.mono HW.out.size))
  clear hb hs g hnf g1
  obtain ⟨h, hh⟩ : ∃ h, yn / 2 = h := ⟨_, rfl⟩
  have hhn : h ≤ yn := by omega
  have hq : IntKind.i64.wrap (((yn : Nat) : Int).tdiv 2) = (h : Int) := by
    rw [show ((yn : Nat) : Int).tdiv 2 = ((yn / 2 : Nat) : Int) from rfl, hh, IntKind.wrap_i64]
    omega
  have HQ := hide hq
  obtain ⟨r, hr⟩ : ∃ r, yn - h = r := ⟨_, rfl⟩
  have hrn : IntKind.i64.wrap ((yn : Int) - (h : Int)) = (r : Int) := by rw [IntKind.wrap_i64]; omega
  have HRN := hide hrn
  have hr2 : r ≤ yn := by omega
  have HR2 := hide hr2
  have hcx := SX.out.cap
  have HHC := hide (Nat.le_trans hhn hcx)
  have C1 := hide (SX.out.cut_ (l := 0) (h := h) (Nat.zero_le _) hhn)
  have C2 := hide (SY.out.cut_ (l := r) (h := yn) hr2 (Nat.le_refl _))
  have HCAT : Hid ((xs.drop 0).take (h - 0) ++ ((invw xs).drop r).take (yn - r) = xs.take h ++ invw (xs.take h)) := hide (by
    rw [List.drop_zero, Nat.sub_zero, List.take_of_length_le (show ((invw xs).drop r).length ≤ yn - r by rw [List.length_drop, invw_length, HXL.out]; exact Nat.le_refl _), ← hr, ← HXL.out]
    exact inv_tail xs h (by rw [HXL.out]; exact hhn))
  have hokt := okB_take HOK.out h
  have HFZ := hide (bf_ok (w := xs.take h ++ invw (xs.take h)) (by omega) hN6 (okB_app hokt (okB_inv hokt)) (by simp [invw_length]; omega))
  have HG1 : Hid (gp N (xs.take h ++ invw (xs.take h)) = gp N []) := hide (by rw [← gp_mul]; exact gp_iw N (xs.take h))
  have HF0 : Hid (bfault (N : Int) [] = 0) := hide (bf_ok (by omega) hN6 (fun x hx => by cases hx) (by simp))
  have HYN := hide hhn
  have HCL : Hid (((xs.drop 0).take (h - 0)).length + (((invw xs).drop r).take (yn - r)).length ≤ 1000000) := hide (by
    rw [List.length_take, List.length_take, List.length_drop, List.length_drop, invw_length, HXL.out]; omega)
  clear hq hh hr hrn hr2 hcx hhn hokt SX SY
  go_upto_region 8 with fail
  refine wp_region_noPanic ?_
  refine wp_region_held_drew (S := fun x => Below w5.heap.size w5.drew x) (by kernel_rfl) (Below.refl _ _) (fun hS0 => ?_)
  refine wpAnyH_tk 0 (v := .int .i64 N) rfl (by kernel_rfl) (by kernel_rfl) (by kernel_rfl) (yi rfl fun w' hw' => gives_move (.inl rfl) rfl) hS0 ?_
  go_frame
  refine wpAnyH_tk 1 (v := .slice X yn xc) rfl (by kernel_rfl) (by kernel_rfl) (by kernel_rfl) (yi rfl fun w' hw' => gives_move (.inl rfl) rfl) hS0 ?_
  go_frame
  refine wpAnyH_tk 2 (v := .slice X yn xc) rfl (by kernel_rfl) (by kernel_rfl) (by kernel_rfl) (yi rfl fun w' hw' => gives_move (.inl rfl) rfl) hS0 ?_
  go_frame
  refine wpAnyH_tk 3 (v := .int .i64 yn) rfl (by kernel_rfl) (by kernel_rfl) (by kernel_rfl) (yi rfl fun w' hw' => gives_len rfl Try.underlying22 rfl) hS0 ?_
  go_frame
  refine wpAnyH_tk 4 (v := .int .i64 h) rfl (by kernel_rfl) (by kernel_rfl) (by kernel_rfl) (yi rfl fun w' hw' => gives_quo rfl rfl rfl (by decide) HQ.out) hS0 ?_
  go_frame
  refine wpAnyH_tk 5 (v := .slice (cutA X 0 xc) (h - 0) (xc - 0)) rfl (by kernel_rfl) (by kernel_rfl) (by kernel_rfl) (yi rfl fun w' hw' => gives_cut_h rfl Try.underlying22 (by rw [HI0.out]; exact congrArg some HZ1.out) rfl rfl HHC.out) hS0 ?_
  go_frame
  refine wpAnyH_tk 6 (v := .slice Y yn yc) rfl (by kernel_rfl) (by kernel_rfl) (by kernel_rfl) (yi rfl fun w' hw' => gives_move (.inl rfl) rfl) hS0 ?_
  go_frame
  refine wpAnyH_tk 7 (v := .slice Y yn yc) rfl (by kernel_rfl) (by kernel_rfl) (by kernel_rfl) (yi rfl fun w' hw' => gives_move (.inl rfl) rfl) hS0 ?_
  go_frame
  refine wpAnyH_tk 8 (v := .int .i64 yn) rfl (by kernel_rfl) (by kernel_rfl) (by kernel_rfl) (yi rfl fun w' hw' => gives_len rfl Try.underlying22 rfl) hS0 ?_
  go_frame
  refine wpAnyH_tk 9 (v := .slice X yn xc) rfl (by kernel_rfl) (by kernel_rfl) (by kernel_rfl) (yi rfl fun w' hw' => gives_move (.inl rfl) rfl) hS0 ?_
  go_frame
  refine wpAnyH_tk 10 (v := .int .i64 yn) rfl (by kernel_rfl) (by kernel_rfl) (by kernel_rfl) (yi rfl fun w' hw' => gives_len rfl Try.underlying22 rfl) hS0 ?_
  go_frame
  refine wpAnyH_tk 11 (v := .int .i64 h) rfl (by kernel_rfl) (by kernel_rfl) (by kernel_rfl) (yi rfl fun w' hw' => gives_quo rfl rfl rfl (by decide) HQ.out) hS0 ?_
  go_frame
  refine wpAnyH_tk 12 (v := .int .i64 r) rfl (by kernel_rfl) (by kernel_rfl) (by kernel_rfl) (yi rfl fun w' hw' => gives_sub rfl rfl rfl HRN.out) hS0 ?_
  go_frame
  refine wpAnyH_tk 13 (v := .slice (cutA Y r yc) (yn - r) (yc - r)) rfl (by kernel_rfl) (by kernel_rfl) (by kernel_rfl) (yi rfl fun w' hw' => gives_cut_l rfl Try.underlying22 (by rw [HI0.out]; exact congrArg some HZ1.out) rfl rfl HR2.out) hS0 ?_
  go_frame
  refine wpAnyH_1 14 rfl (by kernel_rfl) ?_
  refine wp_buildSlice_at (l := [(0, .tmp 57), (1, .tmp 65)]) i1 (.slice none 0 0) 1 [(0, .slice (cutA X 0 xc) (h - 0) (xc - 0)), (1, .slice (cutA Y r yc) (yn - r) (yc - r))] rfl Try.underlying26 HI1.out HY0.out HY1.out (by decide) (by decide) rfl (by simp [Instr.fill, Value.cells, show Array.range 2 = #[0, 1] from rfl]; rfl) ?_
  have hS1 : Below w5.heap.size w5.drew (w5.drew.alloc (.cells #[.slice (cutA X 0 xc) (h - 0) (xc - 0), .slice (cutA Y r yc) (yn - r) (yc - r)] 22)) := hS0.alloc (Nat.le_refl _) _
  refine ⟨hS1, ?_⟩
  go_frame
  refine wpAnyH_1 15 rfl (by kernel_rfl) ?_
  refine wp_call [.slice (some ⟨w5.drew.heap.size, 0, none⟩) 2 2] rfl rfl eConcatI rfl ((concat2_any _ _ _ _ _ _ _ _ w5.drew (C1.out.below (Below.refl _ _).drew) (C2.out.below (Below.refl _ _).drew) HCL.out).mono ?_)
  rintro e w6 ⟨Z, zn, zc, rfl, ho, hb⟩
  rw [HCAT.out] at ho
  have hS2 : Below w5.heap.size w5.drew w6 := hb
  refine ⟨_, rfl, hS2, ?_⟩
  go_frame
  refine wpAnyH_1 16 rfl (by kernel_rfl) ?_
  refine wp_call [.int .i64 N, .slice Z zn zc, .slice none 0 0] rfl rfl eGEqual rfl ((HF.out.equal (N : Int) Z zn zc _ none 0 0 [] w6 ho.sl (SL.nil_ _) HWM.out).mono ?_)
  rintro e w7 ⟨rfl, hb⟩
  rw [geq_yes HFZ.out HF0.out HG1.out, eq2_ok HFZ.out HF0.out]
  have hS3 : Below w5.heap.size w5.drew w7 := hS2.trans (hb.mono hS2.size)
  refine ⟨_, rfl, hS3, ?_⟩
  go_frame
  refine wpAnyH_tk 17 (v := .tuple #[.bool true, .int .i64 0]) rfl (by kernel_rfl) (by kernel_rfl) (by kernel_rfl) (yi rfl fun w' hw' => gives_move (.inl rfl) rfl) hS3 ?_
  go_frame
  refine wpAnyH_tk 18 (v := .bool true) rfl (by kernel_rfl) (by kernel_rfl) (by kernel_rfl) (yi rfl fun w' hw' => gives_extract rfl rfl rfl) hS3 ?_
  go_frame
  refine wpAnyH_tk 19 (v := .int .i64 0) rfl (by kernel_rfl) (by kernel_rfl) (by kernel_rfl) (yi rfl fun w' hw' => gives_extract rfl rfl rfl) hS3 ?_
  go_frame
  refine wpAnyH_tk 20 (v := .bool true) rfl (by kernel_rfl) (by kernel_rfl) (by kernel_rfl) (yi rfl fun w' hw' => gives_move (.inr rfl) rfl) hS3 ?_
  go_frame
  refine wpAnyH_tk 21 (v := .int .i64 0) rfl (by kernel_rfl) (by kernel_rfl) (by kernel_rfl) (yi rfl fun w' hw' => gives_move (.inr rfl) rfl) hS3 ?_
  go_frame
  refine wpAnyH_done (by kernel_rfl) (noPanic_mk ?_) _
  have HW7 := hide (HW.out.trans ((show Below w5.heap.size w5 w7 from (Below.refl _ _).drew.trans hS3).mono HW.out.size))
  clear hS0 hS1 hS2 hS3 ho hb HW C1 C2
  go_wp2_with fail
  refine (formed_k HF.out w7).mono ?_
  rintro e w8 ⟨rfl, hb⟩
  replace HW7 := hide (HW7.out.trans (hb.mono HW7.out.size))
  clear hb
  have n1 : IntKind.i64.wrap (-k) = -k := by rw [IntKind.wrap_i64]; omega
  have n2 : IntKind.i64.wrap (-k - (ln2 : Int)) = -k - (ln2 : Int) := by rw [IntKind.wrap_i64]; omega
  have n3 : (-k - (ln2 : Int) == -k - (ln2 : Int)) = true := by simp
  have n4 : ((ln2 : Int) == (ln2 : Int)) = true := by simp
  go_wp2_with fail
  go_ret
  exact ⟨rfl, HW7.out⟩
end Go.Proofs.Ytoaiblhlpdaeoaa
