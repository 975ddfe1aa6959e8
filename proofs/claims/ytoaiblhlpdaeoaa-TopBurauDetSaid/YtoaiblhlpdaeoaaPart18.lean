/- Several texts in one. -/
import Derived.Test.YtoaiblhlpdaeoaaPart17
import Derived.Test.YtoaiblhlpdaeoaaPart3
import Derived.Test.YtoaiblhlpdaeoaaPart9
import Derived.Test.YtoaiblhlpdaeoaaPart2
import Derived.Test.YtoaiblhlpdaeoaaPart1
/- Package garside: Word; the contracts together. (Written by tools/gen_gword.py.) -/
namespace Go.Proofs.Ytoaiblhlpdaeoaa
set_option linter.unusedVariables false
set_option linter.unusedSimpArgs false
open Go.RowKit

theorem half_fault {n : Nat} (h1 : 2 ≤ n) (h6 : n ≤ 6) : bfault (n : Int) (halfW n) = 0 :=
  bfault_ok (by omega) (by omega) (by have := (half_len h1 h6).2.1; omega) fun x hx => by have := okB_half n x hx; omega
set_option maxRecDepth 100000 in
set_option maxHeartbeats 8000000 in
theorem gWord_any (m k : Int) (A : Option Addr) (l c : Nat) (xss : List (List Int)) (w : World) (ha : SLL w A l c xss) (hm : (Lit.int .i64 m).wf = true) (hkw : (Lit.int .i64 k).wf = true) :
    Calls Try.prog 19 #[.int .i64 m, .int .i64 k, .slice A l c] w (GivesLE w (wordE m k xss) (wordL m k xss)) := by
  have HCK := hide (gcheck_any m A l c xss w ha hm)
  have HA := hide ha
  have HWM := hide hm
  clear ha hm
  by_cases h0 : ffE m xss = 0
  case neg =>
    have HE : Hid (wordE m k xss = ffE m xss) := hide (by unfold wordE; rw [if_pos h0])
    have HV : Hid (wordL m k xss = []) := hide (by unfold wordL; rw [HE.out, if_neg h0])
    obtain ⟨f, hf⟩ : ∃ f, ffE m xss = f := ⟨_, rfl⟩
    have HF := hide hf
    rw [hf] at h0
    have hne : (f != 0) = true := by simpa using h0
    clear hf h0
    go_enter Try.func19, Try.ntmps19
    go_wp2_with fail
    refine HCK.out.mono ?_
    rintro e w1 ⟨rfl, hb⟩
    rw [HF.out]
    have HB := hide hb
    clear hb
    go_wp2_with fail
    go_ret2
    rw [HE.out, HV.out, HF.out]
    exact ⟨none, 0, 0, rfl, SL.nil_ _, HB.out⟩
  by_cases h30 : 30 < k.natAbs
  · have HE : Hid (wordE m k xss = 2) := hide (by unfold wordE; rw [if_neg (by simp [h0]), if_pos h30])
    have HV : Hid (wordL m k xss = []) := hide (by unfold wordL; rw [HE.out, if_neg (by decide)])
    have HF := hide h0
    have hkk : k < -30 ∨ 30 < k := by omega
    clear h0 h30
    rcases hkk with hk | hk
    · have hd1 : decide (k < -30) = true := decide_eq_true hk
      clear hk
      go_enter Try.func19, Try.ntmps19
      go_wp2_with fail
      refine HCK.out.mono ?_
      rintro e w1 ⟨rfl, hb⟩
      rw [HF.out]
      have HB := hide hb
      clear hb
      go_wp2_with fail
      go_ret2
      rw [HE.out, HV.out]
      exact ⟨none, 0, 0, rfl, SL.nil_ _, HB.out⟩
    · have hd1 : decide (k < -30) = false := decide_eq_false (by omega)
      have hd2 : decide ((30 : Int) < k) = true := decide_eq_true hk
      clear hk
      go_enter Try.func19, Try.ntmps19
      go_wp2_with fail
      refine HCK.out.mono ?_
      rintro e w1 ⟨rfl, hb⟩
      rw [HF.out]
      have HB := hide hb
      clear hb
      go_wp2_with fail
      go_ret2
      rw [HE.out, HV.out]
      exact ⟨none, 0, 0, rfl, SL.nil_ _, HB.out⟩
  obtain ⟨n, ps, rfl, h2, h6, rfl, hpl, hPL, _⟩ := ffE_ok h0
  have HE : Hid (wordE (n : Int) k (ps.map zs) = if 30 < (wriW n k ps).length then 2 else 0) := hide (by unfold wordE; rw [if_neg (by simp [h0]), if_neg h30, Int.toNat_natCast, nlL_zs])
  have HV : Hid (wordL (n : Int) k (ps.map zs) = if 30 < (wriW n k ps).length then [] else wriW n k ps) := hide (by
    unfold wordL
    rw [HE.out, Int.toNat_natCast, nlL_zs]
    split
    · rw [if_neg (by decide)]
    · rw [if_pos rfl])
  have HF := hide h0
  have HP := hide hPL
  have HL : Hid (ps.length = l) := hide (by have := HA.out.len; rwa [List.length_map] at this)
  have hl30 : l ≤ 30 := by rw [← HL.out]; exact hpl
  have hd1 : decide (k < -30) = false := decide_eq_false (by omega)
  have hd2 : decide ((30 : Int) < k) = false := decide_eq_false (by omega)
  obtain ⟨q1, q2, _⟩ := half_len h2 h6
  have HQ1 := hide q1
  have HQ2 := hide q2
  have HOK := hide (okB_half n)
  obtain ⟨i0, hi0, hz0, hz1, hz2⟩ := info_parts int_info
  have HI0 := hide hi0
  have HZ0 := hide hz0
  have HZ1 := hide hz1
  have HZ2 := hide hz2
  clear h0 hpl hPL q1 q2 hi0 hz0 hz1 hz2
  go_enter Try.func19, Try.ntmps19
  go_wp2_with fail
  refine HCK.out.mono ?_
  rintro e w0 ⟨rfl, hb⟩
  rw [HF.out]
  have HW := hide hb
  clear hb HCK
  go_wp2_with fail
  refine (ghalf_any n w0 (by omega)).mono ?_
  rintro e w1 ⟨F, fn, fc, rfl, ho, hb⟩
  have hfn : fn = n := by have := ho.len; rw [zs_length, (full_isP n).2] at this; exact this.symm
  subst hfn
  replace HW := hide (HW.out.trans (hb.mono HW.out.size))
  have HS := hide (gword_any F fn fc _ w1 ho.sl (full_isP fn).1 (full_isP fn).2 (by omega) h6)
  clear hb ho
  go_wp2_with fail
  refine HS.out.mono ?_
  rintro e w2 ⟨H, hn, hc, rfl, ho, hb⟩
  change OwnI w2 w1.heap.size H hn hc (halfW fn) at ho
  have hhn := ho.len
  replace HW := hide (HW.out.trans (hb.mono HW.out.size))
  have HH := hide ho.sl
  have HHN := hide hhn
  have hq1 := HQ1.out
  have hq2 := HQ2.out
  rw [hhn] at hq1 hq2
  clear hb ho hhn HS
  by_cases hneg : k < 0
  · obtain ⟨q, hq⟩ : ∃ q : Nat, k = -(q : Int) := ⟨k.natAbs, by omega⟩
    subst hq
    have hq30 : q ≤ 30 := by omega
    have hwq : IntKind.i64.wrap (- -(q : Int)) = (q : Int) := by rw [IntKind.wrap_i64]; omega
    have hmx : max (-(q : Int)) (- -(q : Int)) = (q : Int) := by omega
    have hmx2 : max (-(q : Int)) (q : Int) = (q : Int) := by omega
    have HPW : Hid (powW fn (-(q : Int)) = rep (invw (halfW fn)) q) := hide (by unfold powW; rw [if_pos hneg, show (-(q : Int)).natAbs = q by omega])
    have HBI := hide (binv_any (fn : Int) H hn hc _ w2 HH.out (wfI (by omega)))
    have hfz := half_fault h2 h6
    rw [hfz, show invB (fn : Int) (halfW fn) = invw (halfW fn) by unfold invB; rw [if_pos hfz]] at HBI
    clear hfz
    go_wp2_with fail
    refine HBI.out.mono ?_
    rintro e w3 ⟨D, dn, dc, rfl, hs, hb⟩
    have hdn : dn = hn := by have := hs.il.len; rw [invw_length, HHN.out] at this; exact this.symm
    subst hdn
    replace HW := hide (HW.out.trans (hb.mono HW.out.size))
    have HRP := hide (repeat_all D dn dc q _ w3 hs.il hq1 (by omega) (by have := Nat.mul_le_mul hq30 hq2; omega))
    rw [← HPW.out] at HRP
    clear hb hs HBI
    go_wp2_with ((with_reducible show wpList _ _ _ (Oper.mk _ (.call { callee := .builtin .max, args := _, argTypes := _ }) _ _ _ _ :: _) _ _); refine wpList_gives rfl (gives_maxI rfl rfl rfl (by first | exact hmx | exact hmx2)) ?_)
    refine HRP.out.mono ?_
    rintro e w4 ⟨R, rn, rc, rfl, ho, hb⟩
    have hrn : rn ≤ 450 := by
      have h1 := ho.len
      rw [HPW.out, rep_length] at h1
      have h3 := invw_length (halfW fn)
      rw [h3, HHN.out] at h1
      have := Nat.mul_le_mul hq30 hq2
      omega
    have HPL := hide ho.len
    have HO : Hid (OwnI w4 w.heap.size R rn rc (powW fn (-(q : Int)) ++ facW (ps.take 0))) := hide (by
      rw [List.take_zero, show facW [] = [] from rfl, List.append_nil]
      exact ho.mono HW.out.size)
    replace HW := hide (HW.out.trans (hb.mono HW.out.size))
    clear hb ho HRP HPW hwq HH HHN hq1 hq2 hmx hmx2 hneg
    go_wp2_with fail
    go_loopw [10, 44] (fun ov iv wr => ∃ (j : Nat) (D : Option Addr) (dn dc : Nat), j ≤ l ∧ iv = .int .i64 j ∧ ov = .slice D dn dc ∧ Hid (OwnI wr w.heap.size D dn dc (powW fn (-(q : Int)) ++ facW (ps.take j))) ∧ Hid (Below w.heap.size w wr)) (fun _ iv _ => l - (intOf iv).toNat)
    case atStart => exact ⟨0, R, rn, rc, Nat.zero_le _, rfl, rfl, HO, HW⟩
    case round =>
      clear HO HW
      obtain ⟨j, D, dn, dc, hj, rfl, rfl, HO, HB⟩ := hrel
      by_cases hjl : j < l
      · have hjp : j < ps.length := by rw [HL.out]; exact hjl
        obtain ⟨ad, B, bm, bd, rfl, hcl, hr⟩ := (HA.out.below HB.out).at_ hjl
        have hpm : ps.getD j [] ∈ ps := by rw [show ps.getD j [] = ps[j] by simp [List.getD, hjp]]; exact List.getElem_mem _
        obtain ⟨pp1, pp2⟩ := HP.out _ hpm
        rw [show (ps.map zs).getD j [] = zs (ps.getD j []) by simp [List.getD, hjp]] at hr
        have hbm : bm = fn := by have := hr.il.len; rw [zs_length, pp2] at this; exact this.symm
        subst hbm
        have HSP := hide (gword_any B bm bd _ wr hr pp1 pp2 (by omega) h6)
        have HFT := hide (facW_take hjp)
        have hdn : dn ≤ 2000 := by
          have h1 := HO.out.len
          rw [List.length_append, HPL.out] at h1
          have h3 := facW_len (n := bm) (l := ps.take j) (fun p hp => (HP.out p (List.mem_of_mem_take hp)).2) h6
          rw [List.length_take] at h3
          omega
        have hwl : (wrd (ps.getD j [])).length ≤ 36 := by
          have h1 := wrd_len (ps.getD j [])
          rw [pp2] at h1
          have := Nat.mul_le_mul h6 h6
          omega
        have HWL := hide hwl
        have HJL := hide hjl
        clear hjp hr hpm pp1 pp2 hwl
        generalize ps.getD j [] = p at *
        go_wp2_with fail
        refine HSP.out.mono ?_
        rintro e w5 ⟨S, sn, sc, rfl, ho, hb⟩
        have hsn : sn ≤ 36 := by have := ho.len; have := HWL.out; omega
        have HS5 := hide ho.il
        have hO5 := HO.out.below hb
        have HO5 := hide hO5
        have HB5 := hide (HB.out.trans (hb.mono HB.out.size))
        have hsz5 := HB5.out.size
        clear hb ho hO5 HSP hcl
        go_wp2_with (at_builtin; refine wpList_append_int _ rfl (.tmp 48) (.tmp 50) 22 rfl w.heap.size i0 Try.underlying22 HI0.out HZ0.out HZ1.out HZ2.out D dn dc _ rfl HO5.out S sn sc (wrd p) rfl HS5.out (by omega) hsz5 ?_; intro A9 c9 w9 happ)
        have ho := happ.own
        rw [List.append_assoc, ← HFT.out] at ho
        have HO9 := hide ho
        have hb9 : Below w.heap.size w w9 := HB5.out.grown happ.grown hsz5 (fun b hb => (HO5.out.lt b (by rw [ownBlock_len D dn (dn + sn) dc dc]; exact hb)).1)
        have HB9 := hide hb9
        clear ho hb9 happ
        have hjl := HJL.out
        go_wp2_with fail
        go_roundw
        case rel => exact ⟨j + 1, A9, dn + sn, c9, by omega, by go_num, rfl, HO9, HB9⟩
        case measure => simp [intOf]; omega
      · have hjl2 : j = l := by omega
        have HEW : Hid (OwnI wr w.heap.size D dn dc (wriW fn (-(q : Int)) ps)) := hide (by
          have h := HO.out
          rw [hjl2, List.take_of_length_le (by rw [HL.out]; exact Nat.le_refl _)] at h
          exact h)
        have HLN := hide HEW.out.len
        clear HO hjl2
        by_cases h31 : 30 < dn
        · have hdd : decide ((30 : Int) < (dn : Int)) = true := decide_eq_true (by omega)
          have HE2 := hide (HE.out.trans (if_pos (by rw [HLN.out]; exact h31)))
          have HV2 := hide (HV.out.trans (if_pos (by rw [HLN.out]; exact h31)))
          clear h31
          go_wp2_with fail
          go_ret2
          rw [HE2.out, HV2.out]
          exact ⟨none, 0, 0, rfl, SL.nil_ _, HB.out⟩
        · have hdd : decide ((30 : Int) < (dn : Int)) = false := decide_eq_false (by omega)
          have HE2 := hide (HE.out.trans (if_neg (by rw [HLN.out]; exact h31)))
          have HV2 := hide (HV.out.trans (if_neg (by rw [HLN.out]; exact h31)))
          clear h31
          go_wp2_with fail
          go_ret2
          rw [HE2.out, HV2.out]
          exact ⟨D, dn, dc, rfl, HEW.out.sl, HB.out⟩
  · obtain ⟨q, hq⟩ : ∃ q : Nat, k = (q : Int) := ⟨k.natAbs, by omega⟩
    subst hq
    have hq30 : q ≤ 30 := by omega
    have hwq : IntKind.i64.wrap (-(q : Int)) = -(q : Int) := by rw [IntKind.wrap_i64]; omega
    have hmx : max (q : Int) (-(q : Int)) = (q : Int) := by omega
    have hmx2 : True := trivial
    have HPW : Hid (powW fn (q : Int) = rep (halfW fn) q) := hide (by unfold powW; rw [if_neg hneg, Int.natAbs_natCast])
    have HRP := hide (repeat_all H hn hc q _ w2 HH.out.il hq1 (by omega) (by have := Nat.mul_le_mul hq30 hq2; omega))
    rw [← HPW.out] at HRP
    go_wp2_with ((with_reducible show wpList _ _ _ (Oper.mk _ (.call { callee := .builtin .max, args := _, argTypes := _ }) _ _ _ _ :: _) _ _); refine wpList_gives rfl (gives_maxI rfl rfl rfl (by first | exact hmx | exact hmx2)) ?_)
    refine HRP.out.mono ?_
    rintro e w4 ⟨R, rn, rc, rfl, ho, hb⟩
    have hrn : rn ≤ 450 := by
      have h1 := ho.len
      rw [HPW.out, rep_length] at h1
      rw [HHN.out] at h1
      have := Nat.mul_le_mul hq30 hq2
      omega
    have HPL := hide ho.len
    have HO : Hid (OwnI w4 w.heap.size R rn rc (powW fn (q : Int) ++ facW (ps.take 0))) := hide (by
      rw [List.take_zero, show facW [] = [] from rfl, List.append_nil]
      exact ho.mono HW.out.size)
    replace HW := hide (HW.out.trans (hb.mono HW.out.size))
    clear hb ho HRP HPW hwq HH HHN hq1 hq2 hmx hmx2 hneg
    go_wp2_with fail
    go_loopw [10, 44] (fun ov iv wr => ∃ (j : Nat) (D : Option Addr) (dn dc : Nat), j ≤ l ∧ iv = .int .i64 j ∧ ov = .slice D dn dc ∧ Hid (OwnI wr w.heap.size D dn dc (powW fn (q : Int) ++ facW (ps.take j))) ∧ Hid (Below w.heap.size w wr)) (fun _ iv _ => l - (intOf iv).toNat)
    case atStart => exact ⟨0, R, rn, rc, Nat.zero_le _, rfl, rfl, HO, HW⟩
    case round =>
      clear HO HW
      obtain ⟨j, D, dn, dc, hj, rfl, rfl, HO, HB⟩ := hrel
      by_cases hjl : j < l
      · have hjp : j < ps.length := by rw [HL.out]; exact hjl
        obtain ⟨ad, B, bm, bd, rfl, hcl, hr⟩ := (HA.out.below HB.out).at_ hjl
        have hpm : ps.getD j [] ∈ ps := by rw [show ps.getD j [] = ps[j] by simp [List.getD, hjp]]; exact List.getElem_mem _
        obtain ⟨pp1, pp2⟩ := HP.out _ hpm
        rw [show (ps.map zs).getD j [] = zs (ps.getD j []) by simp [List.getD, hjp]] at hr
        have hbm : bm = fn := by have := hr.il.len; rw [zs_length, pp2] at this; exact this.symm
        subst hbm
        have HSP := hide (gword_any B bm bd _ wr hr pp1 pp2 (by omega) h6)
        have HFT := hide (facW_take hjp)
        have hdn : dn ≤ 2000 := by
          have h1 := HO.out.len
          rw [List.length_append, HPL.out] at h1
          have h3 := facW_len (n := bm) (l := ps.take j) (fun p hp => (HP.out p (List.mem_of_mem_take hp)).2) h6
          rw [List.length_take] at h3
          omega
        have hwl : (wrd (ps.getD j [])).length ≤ 36 := by
          have h1 := wrd_len (ps.getD j [])
          rw [pp2] at h1
          have := Nat.mul_le_mul h6 h6
          omega
        have HWL := hide hwl
        have HJL := hide hjl
        clear hjp hr hpm pp1 pp2 hwl
        generalize ps.getD j [] = p at *
        go_wp2_with fail
        refine HSP.out.mono ?_
        rintro e w5 ⟨S, sn, sc, rfl, ho, hb⟩
        have hsn : sn ≤ 36 := by have := ho.len; have := HWL.out; omega
        have HS5 := hide ho.il
        have hO5 := HO.out.below hb
        have HO5 := hide hO5
        have HB5 := hide (HB.out.trans (hb.mono HB.out.size))
        have hsz5 := HB5.out.size
        clear hb ho hO5 HSP hcl
        go_wp2_with (at_builtin; refine wpList_append_int _ rfl (.tmp 48) (.tmp 50) 22 rfl w.heap.size i0 Try.underlying22 HI0.out HZ0.out HZ1.out HZ2.out D dn dc _ rfl HO5.out S sn sc (wrd p) rfl HS5.out (by omega) hsz5 ?_; intro A9 c9 w9 happ)
        have ho := happ.own
        rw [List.append_assoc, ← HFT.out] at ho
        have HO9 := hide ho
        have hb9 : Below w.heap.size w w9 := HB5.out.grown happ.grown hsz5 (fun b hb => (HO5.out.lt b (by rw [ownBlock_len D dn (dn + sn) dc dc]; exact hb)).1)
        have HB9 := hide hb9
        clear ho hb9 happ
        have hjl := HJL.out
        go_wp2_with fail
        go_roundw
        case rel => exact ⟨j + 1, A9, dn + sn, c9, by omega, by go_num, rfl, HO9, HB9⟩
        case measure => simp [intOf]; omega
      · have hjl2 : j = l := by omega
        have HEW : Hid (OwnI wr w.heap.size D dn dc (wriW fn (q : Int) ps)) := hide (by
          have h := HO.out
          rw [hjl2, List.take_of_length_le (by rw [HL.out]; exact Nat.le_refl _)] at h
          exact h)
        have HLN := hide HEW.out.len
        clear HO hjl2
        by_cases h31 : 30 < dn
        · have hdd : decide ((30 : Int) < (dn : Int)) = true := decide_eq_true (by omega)
          have HE2 := hide (HE.out.trans (if_pos (by rw [HLN.out]; exact h31)))
          have HV2 := hide (HV.out.trans (if_pos (by rw [HLN.out]; exact h31)))
          clear h31
          go_wp2_with fail
          go_ret2
          rw [HE2.out, HV2.out]
          exact ⟨none, 0, 0, rfl, SL.nil_ _, HB.out⟩
        · have hdd : decide ((30 : Int) < (dn : Int)) = false := decide_eq_false (by omega)
          have HE2 := hide (HE.out.trans (if_neg (by rw [HLN.out]; exact h31)))
          have HV2 := hide (HV.out.trans (if_neg (by rw [HLN.out]; exact h31)))
          clear h31
          go_wp2_with fail
          go_ret2
          rw [HE2.out, HV2.out]
          exact ⟨D, dn, dc, rfl, HEW.out.sl, HB.out⟩

theorem garC : GarC where
  normal := gnormal_any
  check := gcheck_any
  word := gWord_any
  equal := gequal_any
end Go.Proofs.Ytoaiblhlpdaeoaa
/- Package polymatrix: checkElement, Check. -/
namespace Go.Proofs.Ytoaiblhlpdaeoaa
set_option linter.unusedVariables false
set_option linter.unusedSimpArgs false
open Go.RowKit

set_option maxRecDepth 100000 in
set_option maxHeartbeats 4000000 in
theorem checkEl_any (lo : Int) (A : Option Addr) (n c : Nat) (xs : List Int) (w : World) (ha : SL w A n c xs) :
    Calls Try.prog 113 #[PV lo A n c] w fun e w' => e = .returned (.int .i64 (polyE (lo, xs))) ∧ Below w.heap.size w w' := by
  have HL := hide ha.il.len
  have hb0 : Below w.heap.size w (w.alloc (.cells #[.int .i64 lo, .slice A n c] 54)) := (Below.refl _ _).alloc (Nat.le_refl _) _
  have HW := hide hb0
  have HA := hide (ha.below hb0)
  have B0 := hide (Blk.new w 54 #[.int .i64 lo, .slice A n c])
  have hns := ha.il.small
  clear ha hb0
  obtain ⟨w0, hw0⟩ : ∃ x, w.alloc (.cells #[.int .i64 lo, .slice A n c] 54) = x := ⟨_, rfl⟩
  rw [hw0] at HW HA B0
  have hq0 := B0.out.cell 0
  have hq1 := B0.out.cell 1
  simp at hq0 hq1
  go_enter Try.func113, Try.ntmps113
  go_upto_region 1 with fail
  clear hw0
  go_wp2_with fail
  refine (lcheck_any lo A n c xs _ HA.out).mono ?_
  rintro e w1 ⟨rfl, hb⟩
  replace HA := hide (HA.out.below hb)
  replace HW := hide (HW.out.trans (hb.mono HW.out.size))
  replace B0 := hide (B0.out.below hb B0.out.lt)
  clear hb hq0 hq1
  have hq0 := B0.out.cell 0
  have hq1 := B0.out.cell 1
  simp at hq0 hq1
  obtain ⟨p, hp⟩ : ∃ p, LP.pfl lo xs = p := ⟨_, rfl⟩
  rw [hp]
  have HP := hide hp
  clear hp
  by_cases hp0 : p = 0
  case neg =>
    have HE : Hid (polyE (lo, xs) = p) := hide (by unfold polyE; rw [if_pos (by simp only []; rw [HP.out]; exact hp0)]; exact HP.out)
    have hne : (p != 0) = true := by simpa using hp0
    clear hp0
    go_wp2_with fail
    go_ret
    exact ⟨by rw [HE.out]; rfl, HW.out⟩
  subst hp0
  by_cases hbig : 20 < n ∨ 20 < lo ∨ lo < -20
  · have HE : Hid (polyE (lo, xs) = 2) := hide (by
      unfold polyE
      rw [if_neg (by simp only []; rw [HP.out]; simp), if_pos (by simp only []; rw [HL.out]; exact hbig)])
    by_cases h1 : 20 < n
    · clear hbig
      go_wp2_with fail
      go_ret
      exact ⟨by rw [HE.out]; rfl, HW.out⟩
    by_cases h2 : lo < -20
    · clear hbig
      go_wp2_with fail
      go_ret
      exact ⟨by rw [HE.out]; rfl, HW.out⟩
    have h3 : 20 < lo := by omega
    clear hbig
    go_wp2_with fail
    go_ret
    exact ⟨by rw [HE.out]; rfl, HW.out⟩
  have h1 : n ≤ 20 := by omega
  have h2 : lo ≤ 20 := by omega
  have h3 : -20 ≤ lo := by omega
  have HE : Hid (polyE (lo, xs) = if xs.any (fun c => decide (1000 < c) || decide (c < -1000)) then 1 else 0) := hide (by
    unfold polyE
    rw [if_neg (by simp only []; rw [HP.out]; simp), if_neg (by simp only []; rw [HL.out]; exact hbig)])
  clear hbig
  go_wp2_with fail
  go_loop [28] (fun lv => ∃ l : Nat, l ≤ n ∧ lv = .int .i64 l ∧ Hid ((xs.take l).any (fun c => decide (1000 < c) || decide (c < -1000)) = false)) (fun lv => n - (intOf lv).toNat)
  case atStart => exact ⟨0, Nat.zero_le _, rfl, hide (by rw [List.take_zero]; rfl)⟩
  case round =>
    obtain ⟨l, hl, rfl, HANY⟩ := hrel
    by_cases hlm : l < n
    · obtain ⟨ad3, rfl, hcl3⟩ := HA.out.il.at_ hlm
      have hlx : l < xs.length := by rw [HL.out]; exact hlm
      have hget : xs.getD l 0 = xs[l] := by simp [List.getD, List.getElem?_eq_getElem hlx]
      have HT : Hid (xs.take (l + 1) = xs.take l ++ [xs.getD l 0]) := hide (by rw [List.take_succ_eq_append_getElem hlx, hget])
      have HM : Hid (xs.getD l 0 ∈ xs) := hide (by rw [hget]; exact List.getElem_mem _)
      clear hlx hget
      generalize xs.getD l 0 = cv at *
      by_cases c2 : cv < -1000
      · have HV : Hid (polyE (lo, xs) = 1) := hide (by rw [HE.out, if_pos (List.any_eq_true.2 ⟨cv, HM.out, by simp [c2]⟩)])
        go_wp2_with fail
        go_ret
        exact ⟨by rw [HV.out]; rfl, HW.out⟩
      by_cases c1 : 1000 < cv
      · have HV : Hid (polyE (lo, xs) = 1) := hide (by rw [HE.out, if_pos (List.any_eq_true.2 ⟨cv, HM.out, by simp [c1]⟩)])
        go_wp2_with fail
        go_ret
        exact ⟨by rw [HV.out]; rfl, HW.out⟩
      have HA2 : Hid ((xs.take (l + 1)).any (fun c => decide (1000 < c) || decide (c < -1000)) = false) := hide (by rw [HT.out, List.any_append, HANY.out]; simp; omega)
      go_wp2_with fail
      go_round
      case rel => exact ⟨l + 1, by omega, by go_num, HA2⟩
      case measure => simp [intOf]; omega
    · have hle : l = n := by omega
      have HV : Hid (polyE (lo, xs) = 0) := hide (by
        have h := HANY.out
        rw [List.take_of_length_le (by rw [HL.out]; omega)] at h
        rw [HE.out, h]
        rfl)
      clear HANY hle
      go_wp2_with fail
      go_ret
      exact ⟨by rw [HV.out]; rfl, HW.out⟩

set_option maxRecDepth 100000 in
set_option maxHeartbeats 4000000 in
theorem pmcheck_any (A : Option Addr) (n c : Nat) (pss : List (List Po)) (w : World) (ha : SPP w A n c pss) :
    Calls Try.prog 81 #[.slice A n c] w fun e w' => e = .returned (.int .i64 (sqE pss)) ∧ Below w.heap.size w w' := by
  have HA := hide ha
  have HL := hide ha.len
  clear ha
  by_cases h4 : 4 < n
  · have HS : Hid (sqE pss = 2) := hide (by unfold sqE; rw [if_pos (by rw [HL.out]; exact h4)])
    go_enter Try.func81, Try.ntmps81
    go_wp2_with fail
    go_ret
    exact ⟨by rw [HS.out]; rfl, Below.refl _ _⟩
  · have HS : Hid (sqE pss = rowsE n (pss.drop 0)) := hide (by unfold sqE; rw [if_neg (by rw [HL.out]; exact h4), HL.out, List.drop_zero])
    have HW := hide (Below.refl w.heap.size w)
    go_enter Try.func81, Try.ntmps81
    go_wp2_with fail
    go_loopw [13] (fun iv wr => ∃ k : Nat, k ≤ n ∧ iv = .int .i64 k ∧ Hid (sqE pss = rowsE n (pss.drop k)) ∧ Hid (Below w.heap.size w wr)) (fun iv _ => n - (intOf iv).toNat)
    case atStart => exact ⟨0, Nat.zero_le _, rfl, HS, HW⟩
    case round =>
      clear HS HW
      obtain ⟨k, hk, rfl, HS, HW⟩ := hrel
      by_cases hlt : k < n
      · obtain ⟨ad, B, m, d, rfl, hcl, hr⟩ := (HA.out.below HW.out).at_ hlt
        have HR := hide hr
        have HRL := hide hr.len
        have hstep := rowsE_drop (n := n) (k := k) (pss := pss) (by rw [HL.out]; exact hlt)
        clear hr
        generalize pss.getD k [] = ps at *
        rw [HRL.out] at hstep
        by_cases hmn : m = n
        · subst hmn
          rw [if_neg (by simp)] at hstep
          have HST := hide hstep
          clear hstep
          rename World => wo
          have HWO := hide (Below.refl wo.heap.size wo)
          have HR0 : Hid (rowE m ps = rowE m (ps.drop 0)) := hide (by rw [List.drop_zero])
          have HLT := hide hlt
          have HKN := hide hk
          have hne : ((m : Int) != (m : Int)) = false := by simp
          clear hk
          go_wp2_with fail
          clear hlt hcl hne
          go_loopw [24] (fun jv wx => ∃ j : Nat, j ≤ m ∧ jv = .int .i64 j ∧ Hid (rowE m ps = rowE m (ps.drop j)) ∧ Hid (Below wo.heap.size wo wx)) (fun jv _ => m - (intOf jv).toNat)
          case atStart => exact ⟨0, Nat.zero_le _, rfl, HR0, HWO⟩
          case round =>
            clear HR0 HWO
            obtain ⟨j, hj, rfl, HR0, HWO⟩ := hrel
            by_cases hjm : j < m
            · obtain ⟨ad2, B2, m2, d2, rfl, hq0, hq1, hs, hwf⟩ := (HR.out.below HWO.out).at_ hjm
              have hst2 := rowE_drop (n := m) (k := j) (ps := ps) (by rw [HRL.out]; exact hjm)
              obtain ⟨lo, xs, hp⟩ : ∃ lo xs, ps.getD j (0, []) = (lo, xs) := ⟨_, _, rfl⟩
              rw [hp] at hq0 hs hst2 hwf
              dsimp only at hq0 hs hwf
              have HSX := hide hs
              have HJ : Hid (∀ v, polyE (lo, xs) = v → v ≠ 0 → sqE pss = v) := hide (fun v hv h0 => by rw [HS.out, HST.out, HR0.out, hst2, hv, if_pos h0, if_pos h0])
              have HN : Hid (polyE (lo, xs) = 0 → rowE m ps = rowE m (ps.drop (j + 1))) := hide (fun h0 => by rw [HR0.out, hst2, if_neg (by rw [h0]; decide)])
              have HJM := hide hjm
              clear hst2 hp hs hwf
              go_upto_region 11 with fail
              have hb : Below wr.heap.size wr (wr.alloc (.cells #[.int .i64 lo, .slice B2 m2 d2] 54)) := (Below.refl _ _).alloc (Nat.le_refl _) _
              have BP := hide (Blk.new wr 54 #[.int .i64 lo, .slice B2 m2 d2])
              replace HSX := hide (HSX.out.below hb)
              replace HWO := hide (HWO.out.trans (hb.mono HWO.out.size))
              obtain ⟨b6, hq⟩ : ∃ q, wr.heap.size = q := ⟨_, rfl⟩
              obtain ⟨w1, hw⟩ : ∃ q, wr.alloc (.cells #[.int .i64 lo, .slice B2 m2 d2] 54) = q := ⟨_, rfl⟩
              rw [hw] at BP HSX HWO ⊢
              rw [hq] at BP ⊢
              clear hb hq hw hq0 hq1
              have hz0 := BP.out.cell 0
              have hz1 := BP.out.cell 1
              simp at hz0 hz1
              clear hjm hj
              go_wp2_with fail
              refine (checkEl_any lo B2 m2 d2 xs _ HSX.out).mono ?_
              rintro e w2 ⟨rfl, hb⟩
              replace HWO := hide (HWO.out.trans (hb.mono HWO.out.size))
              clear hb hz0 hz1 HSX BP
              obtain ⟨fx, hfx⟩ : ∃ q, polyE (lo, xs) = q := ⟨_, rfl⟩
              rw [hfx]
              rw [hfx] at HJ HN
              clear hfx
              by_cases hf0 : fx = 0
              · subst hf0
                have HRN := hide (HN.out rfl)
                have hjm := HJM.out
                clear HN HJ
                go_wp2_with fail
                go_roundw
                case rel => exact ⟨j + 1, by omega, by go_num, HRN, HWO⟩
                case measure => simp [intOf]; omega
              · have HV := hide (HJ.out fx rfl hf0)
                have hne : (fx != 0) = true := by simpa using hf0
                have HWN := hide (HW.out.trans (HWO.out.mono HW.out.size))
                clear hf0
                go_wp2_with fail
                go_ret
                exact ⟨by rw [HV.out]; rfl, HWN.out⟩
            · have hjn : j = m := by omega
              have HE : Hid (rowE m ps = 0) := hide (by rw [HR0.out, List.drop_of_length_le (by rw [HRL.out]; omega)]; rfl)
              have HSN : Hid (sqE pss = rowsE m (pss.drop (k + 1))) := hide (by rw [HS.out, HST.out, if_neg (by rw [HE.out]; decide)])
              have HWN := hide (HW.out.trans (HWO.out.mono HW.out.size))
              clear HR0 HST HS
              have hlt := HLT.out
              go_wp2_with fail
              go_roundw
              case rel => exact ⟨k + 1, by omega, by go_num, HSN, HWN⟩
              case measure => simp [intOf]; omega
        · rw [if_pos hmn] at hstep
          have hne : ((m : Int) != (n : Int)) = true := by simp; omega
          have HST := hide hstep
          clear hstep hmn
          go_wp2_with fail
          go_ret
          exact ⟨by rw [HS.out, HST.out]; rfl, HW.out⟩
      · have hkn : k = n := by omega
        have HE : Hid (sqE pss = 0) := hide (by rw [HS.out, List.drop_of_length_le (by rw [HL.out]; omega)]; rfl)
        clear HS hkn
        go_wp2_with fail
        go_ret
        exact ⟨by rw [HE.out]; rfl, HW.out⟩
end Go.Proofs.Ytoaiblhlpdaeoaa
/- Sums of terms as windows of coefficients; wrapping to 64 bits. -/
namespace Go.Proofs.Ytoaiblhlpdaeoaa
set_option linter.unusedVariables false
set_option linter.unusedSimpArgs false
open Go.RowKit

def wr64 (a : Int) : Int := IntKind.i64.wrap a
theorem wr64_eq (a : Int) : wr64 a = (a + 9223372036854775808) % 18446744073709551616 - 9223372036854775808 := by unfold wr64; rw [IntKind.wrap_i64]
theorem wr64_congr {a b : Int} (h : a % 18446744073709551616 = b % 18446744073709551616) : wr64 a = wr64 b := by rw [wr64_eq, wr64_eq]; omega
theorem wr64_mod (a : Int) : wr64 a % 18446744073709551616 = a % 18446744073709551616 := by rw [wr64_eq]; omega
theorem wr64_small {a : Int} (h : a.natAbs ≤ 9223372036854775807) : wr64 a = a := by rw [wr64_eq]; omega
theorem wr64_step (a s x y : Int) : IntKind.i64.wrap (wr64 a + IntKind.i64.wrap (s * x * wr64 y)) = wr64 (a + s * x * y) := by
  show wr64 (wr64 a + wr64 (s * x * wr64 y)) = _
  apply wr64_congr
  have h : (s * x * wr64 y) % 18446744073709551616 = (s * x * y) % 18446744073709551616 := by
    rw [Int.mul_emod, wr64_mod, ← Int.mul_emod]
  have h2 := wr64_mod (s * x * wr64 y)
  have h3 := wr64_mod a
  omega
theorem map_wr64 {ys : List Int} (h : ∀ y ∈ ys, y.natAbs ≤ 9223372036854775807) : ys.map wr64 = ys := by
  conv => rhs; rw [← List.map_id ys]
  exact List.map_congr_left fun y hy => wr64_small (h y hy)
theorem getD_wr64 (ys : List Int) (j : Nat) : (ys.map wr64).getD j 0 = wr64 (ys.getD j 0) := by
  simp only [List.getD, List.getElem?_map]
  cases ys[j]? <;> rfl
theorem set_wr64 (ys : List Int) (j : Nat) (v : Int) : (ys.map wr64).set j (wr64 v) = (ys.set j v).map wr64 := by rw [List.map_set]
theorem LP.of_set {b : Int} {ys : List Int} {j : Nat} (h : j < ys.length) (c : Int) : LP.of b (ys.set j (ys.getD j 0 + c)) = LP.of b ys + LP.term (b + j) c := LP.ext fun k => by
  rw [LP.co_add, LP.co_term, LP.co_of, LP.co_of, List.length_set]
  by_cases hk : b + j = k
  · subst hk
    rw [if_pos (by omega), if_pos (by omega), if_pos rfl, show (b + (j : Int) - b).toNat = j by omega]
    simp [List.getD, h]
  · rw [if_neg hk, Int.add_zero]
    by_cases h2 : b ≤ k ∧ k < b + ys.length
    · rw [if_pos h2, if_pos h2]
      have : j ≠ (k - b).toNat := by omega
      simp [List.getD, List.getElem?_set, this]
    · rw [if_neg h2, if_neg h2]
theorem LP.of_repl (b : Int) (n : Nat) : LP.of b (List.replicate n 0) = 0 := LP.ext fun k => by
  rw [LP.co_of, LP.co_zero]
  split
  · simp [List.getD, List.getElem?_replicate]
    split <;> rfl
  · rfl
/-- What stands in the sum after i letters of p and k of the minor. -/
def apS (S : LP) (sg lo : Int) (xs : List Int) (b : Int) (ys : List Int) (i k : Nat) : LP :=
  S + LP.term 0 sg * (LP.of lo (xs.take i) * LP.of b ys) + LP.term 0 sg * (LP.term (lo + i) (xs.getD i 0) * LP.of b (ys.take k))
theorem LP.of_nil (lo : Int) : LP.of lo [] = 0 := rfl
theorem apS_zero (S : LP) (sg lo : Int) (xs : List Int) (b : Int) (ys : List Int) : apS S sg lo xs b ys 0 0 = S := by
  unfold apS
  simp only [List.take_zero, LP.of_nil, CR.zero_mul, CR.mul_zero, CR.add_zero]
theorem apS_step (S : LP) (sg lo : Int) (xs : List Int) (b : Int) {ys : List Int} (i : Nat) {k : Nat} (hk : k < ys.length) : apS S sg lo xs b ys i (k + 1) = apS S sg lo xs b ys i k + LP.term (lo + i + (b + k)) (sg * xs.getD i 0 * ys.getD k 0) := by
  unfold apS
  have e : LP.term 0 sg * (LP.term (lo + i) (xs.getD i 0) * LP.term (b + k) (ys.getD k 0)) = LP.term (lo + i + (b + k)) (sg * xs.getD i 0 * ys.getD k 0) := by
    rw [LP.term_mul, LP.term_mul, Int.mul_assoc, Int.zero_add]
  rw [LP.of_take hk, CR.mul_add, CR.mul_add, e, ← CR.add_assoc (R := LP)]
theorem apS_row (S : LP) (sg lo : Int) {xs : List Int} (b : Int) (ys : List Int) {i : Nat} (hi : i < xs.length) : apS S sg lo xs b ys i ys.length = apS S sg lo xs b ys (i + 1) 0 := by
  unfold apS
  simp only [List.take_length, List.take_zero, LP.of_nil, CR.mul_zero, CR.add_zero]
  rw [LP.of_take hi, CR.add_mul, CR.mul_add, CR.add_assoc]
theorem apS_end (S : LP) (sg lo : Int) (xs : List Int) (b : Int) (ys : List Int) : apS S sg lo xs b ys xs.length 0 = S + LP.term 0 sg * (LP.of lo xs * LP.of b ys) := by
  unfold apS
  simp only [List.take_length, List.take_zero, LP.of_nil, CR.mul_zero, CR.add_zero]
/-- The matrix of the given rows and columns. -/
def pmM (pss : List (List Po)) (cs : List Int) : Mtx LP := fun i j => LP.of ((pss.getD i []).getD (cs.getD j 0).toNat (0, [])).1 ((pss.getD i []).getD (cs.getD j 0).toNat (0, [])).2
theorem without_getD {xs : List Int} {i b : Nat} (h : i < xs.length) : (without xs i).getD b 0 = xs.getD (CR.skip i b) 0 := by
  unfold without CR.skip
  simp only [List.getD, List.getElem?_append, List.length_take, List.getElem?_take, List.getElem?_drop]
  rw [Nat.min_eq_left (by omega)]
  by_cases h1 : b < i
  · rw [if_pos h1, if_pos h1, if_pos h1]
  · rw [if_neg h1, if_neg h1, show i + 1 + (b - i) = b + 1 by omega]
theorem without_mem {xs : List Int} {i : Nat} {x : Int} (h : x ∈ without xs i) : x ∈ xs := by
  unfold without at h
  rcases List.mem_append.1 h with h | h
  · exact List.mem_of_mem_take h
  · exact List.mem_of_mem_drop h
/-- The expansion along the first row, the first k columns. -/
def pmE (pss : List (List Po)) (cs : List Int) (k n : Nat) : LP := CR.sumN k fun j => CR.sgR LP j * (pmM pss cs 0 j * detR n fun a b => pmM pss cs (a + 1) (CR.skip j b))
theorem pmE_full (pss : List (List Po)) (cs : List Int) (n : Nat) : pmE pss cs (n + 1) n = detR (n + 1) (pmM pss cs) := rfl
theorem sgR_tm0 (j : Nat) : CR.sgR LP j = LP.term 0 (CR.sgR Int j) := by
  unfold CR.sgR
  split
  · rfl
  · show -LP.term 0 1 = LP.term 0 (-1)
    refine LP.ext fun k => ?_
    rw [LP.co_neg, LP.co_term, LP.co_term]
    split <;> rfl
theorem pmE_step (ps : List Po) (pss : List (List Po)) {cs : List Int} {k : Nat} (hk : k < cs.length) {lo : Int} {xs : List Int} (hp : ps.getD (cs.getD k 0).toNat (0, []) = (lo, xs)) (n : Nat) (D : LP) (hD : D = detR n (pmM pss (without cs k))) :
    pmE (ps :: pss) cs (k + 1) n = pmE (ps :: pss) cs k n + LP.term 0 (CR.sgR Int k) * (LP.of lo xs * D) := by
  unfold pmE
  rw [CR.sumN_succ, ← sgR_tm0, hD]
  congr 1
  congr 1
  congr 1
  · unfold pmM
    show LP.of (ps.getD (cs.getD k 0).toNat (0, [])).1 _ = _
    rw [hp]
    show LP.of lo (ps.getD (cs.getD k 0).toNat (0, [])).2 = _
    rw [hp]
  · congr 1
    funext a b
    unfold pmM
    rw [without_getD hk]
    rfl
theorem sgI_cases (j : Nat) : CR.sgR Int j = 1 ∨ CR.sgR Int j = -1 := by
  unfold CR.sgR
  split
  · exact .inl rfl
  · exact .inr rfl
end Go.Proofs.Ytoaiblhlpdaeoaa
/- Package polymatrix: addProduct. -/
namespace Go.Proofs.Ytoaiblhlpdaeoaa
set_option linter.unusedVariables false
set_option linter.unusedSimpArgs false
open Go.RowKit

set_option maxRecDepth 100000 in
set_option maxHeartbeats 4000000 in
theorem addP_any (base g n cp : Nat) (ss : List Int) (sg lo : Int) (A : Option Addr) (m c : Nat) (xs : List Int) (B : Option Addr) (l d : Nat) (ys : List Int) (w : World) (b : Int)
    (ho : OwnI w base (some ⟨g, 0, none⟩) n cp (ss.map wr64)) (ha : SL w A m c xs) (hb : SL w B l d (ys.map wr64)) (hs : sg = 1 ∨ sg = -1) (hx : ∀ x ∈ xs, x.natAbs ≤ 1000) (hlo1 : -20 ≤ lo) (hlo2 : lo ≤ 20) (hm : m ≤ 20) (hn : n = l + 59) (hl : l ≤ 100000)
    (hga : 0 < m → ∀ ad, A = some ad → ad.block ≠ g) (hgb : 0 < l → ∀ ad, B = some ad → ad.block ≠ g) :
    Calls Try.prog 115 #[.slice (some ⟨g, 0, none⟩) n cp, .int .i64 sg, PV lo A m c, .slice B l d] w fun e w' => e = .returned (.tuple #[]) ∧ ∃ ts : List Int, ts.length = n ∧ LP.of (b - 20) ts = LP.of (b - 20) ss + LP.term 0 sg * (LP.of lo xs * LP.of b ys) ∧ OwnI w' base (some ⟨g, 0, none⟩) n cp (ts.map wr64) ∧ Below g w w' := by
  have hgs : g < w.heap.size := (ho.lt g rfl).2
  have HLX := hide ha.il.len
  have HLY : Hid (ys.length = l) := hide (by have := hb.il.len; simpa using this)
  have HLS : Hid (ss.length = n) := hide (by have := ho.len; simpa using this)
  have hb0 : Below w.heap.size w (w.alloc (.cells #[.int .i64 lo, .slice A m c] 54)) := (Below.refl _ _).alloc (Nat.le_refl _) _
  have HW : Hid (Below g w (w.alloc (.cells #[.int .i64 lo, .slice A m c] 54))) := hide (hb0.mono (Nat.le_of_lt hgs))
  have HA := hide (ha.below hb0)
  have HB := hide (hb.below hb0)
  have HO := hide (ho.alloc (.cells #[.int .i64 lo, .slice A m c] 54))
  have B0 := hide (Blk.new w 54 #[.int .i64 lo, .slice A m c])
  have HX := hide hx
  have HSG := hide hs
  have HGA := hide hga
  have HGB := hide hgb
  have HE := hide (apS_end (LP.of (b - 20) ss) sg lo xs b ys)
  have HZ := hide (apS_zero (LP.of (b - 20) ss) sg lo xs b ys)
  have HST : Hid (∀ i k, k < ys.length → apS (LP.of (b - 20) ss) sg lo xs b ys i (k + 1) = apS (LP.of (b - 20) ss) sg lo xs b ys i k + LP.term (lo + i + (b + k)) (sg * xs.getD i 0 * ys.getD k 0)) := hide (fun i k hk => apS_step _ sg lo xs b i hk)
  have HRW : Hid (∀ i, i < xs.length → apS (LP.of (b - 20) ss) sg lo xs b ys i ys.length = apS (LP.of (b - 20) ss) sg lo xs b ys (i + 1) 0) := hide (fun i hi => apS_row _ sg lo b ys hi)
  have HSS : Hid (LP.of (b - 20) ss = LP.of (b - 20) ss) := hide rfl
  clear hs hx hga hgb ha hb ho hb0
  rw [HLX.out] at HE HRW
  rw [HLY.out] at HST HRW
  generalize hS : LP.of (b - 20) ss = S at *
  obtain ⟨bx, hbx⟩ : ∃ q, w.heap.size = q := ⟨_, rfl⟩
  have hbg : bx ≠ g := by omega
  obtain ⟨w0, hw0⟩ : ∃ x, w.alloc (.cells #[.int .i64 lo, .slice A m c] 54) = x := ⟨_, rfl⟩
  rw [hw0] at HW HA HB HO B0
  rw [hbx] at B0
  have hq0 := B0.out.cell 0
  have hq1 := B0.out.cell 1
  simp at hq0 hq1
  go_enter Try.func115, Try.ntmps115
  go_upto_region 1 with fail
  clear hw0 hbx hgs
  go_wp2_with fail
  clear hq0 hq1
  go_loopw [15] (fun iv wx => ∃ (i : Nat) (ts : List Int), i ≤ m ∧ iv = .int .i64 i ∧ Hid (ts.length = n ∧ LP.of (b - 20) ts = apS S sg lo xs b ys i 0) ∧ Hid (OwnI wx base (some ⟨g, 0, none⟩) n cp (ts.map wr64)) ∧ Hid (SL wx A m c xs) ∧ Hid (SL wx B l d (ys.map wr64)) ∧ Hid (Blk wx bx 54 #[.int .i64 lo, .slice A m c]) ∧ Hid (Below g w wx)) (fun iv _ => m - (intOf iv).toNat)
  case atStart => exact ⟨0, ss, Nat.zero_le _, rfl, hide ⟨HLS.out, hS.trans HZ.out.symm⟩, HO, HA, HB, B0, HW⟩
  case round =>
    clear HO HA HB B0 HW
    obtain ⟨i, ts, hi, rfl, HT, HO, HA, HB, B0, HW⟩ := hrel
    by_cases him : i < m
    · obtain ⟨ad, hA, hcl⟩ := HA.out.il.at_ him
      subst hA
      have HXB : Hid ((xs.getD i 0).natAbs ≤ 1000) := hide (HX.out _ (LP.getD_mem' (by rw [HLX.out]; exact him)))
      have HST2 := hide (HST.out i)
      have HRW2 := hide (HRW.out i him)
      obtain ⟨x, hx⟩ : ∃ x, xs.getD i 0 = x := ⟨_, rfl⟩
      rw [hx] at hcl HXB HST2
      clear hx
      have HIM := hide him
      rename World => wo
      have hi20 : i < 20 := by omega
      clear hi
      go_wp2_with fail
      clear hcl him
      go_loopw [22] (fun kv wx => ∃ (k : Nat) (ts : List Int), k ≤ l ∧ kv = .int .i64 k ∧ Hid (ts.length = n ∧ LP.of (b - 20) ts = apS S sg lo xs b ys i k) ∧ Hid (OwnI wx base (some ⟨g, 0, none⟩) n cp (ts.map wr64)) ∧ Hid (SL wx (some ad) m c xs) ∧ Hid (SL wx B l d (ys.map wr64)) ∧ Hid (Blk wx bx 54 #[.int .i64 lo, .slice (some ad) m c]) ∧ Hid (Below g w wx)) (fun kv _ => l - (intOf kv).toNat)
      case atStart => exact ⟨0, ts, Nat.zero_le _, rfl, HT, HO, HA, HB, B0, HW⟩
      case round =>
        clear HT HO HA HB B0 HW
        obtain ⟨k, ts, hk, rfl, HT, HO, HA, HB, B0, HW⟩ := hrel
        by_cases hkl : k < l
        · obtain ⟨bd, hB, hcl⟩ := HB.out.il.at_ hkl
          subst hB
          rw [getD_wr64] at hcl
          have HN := hide (HST2.out k hkl)
          have hz0 := B0.out.cell 0
          simp at hz0
          obtain ⟨j, hj⟩ : ∃ j : Nat, 20 + lo + i + k = (j : Int) := ⟨(20 + lo + i + k).toNat, by omega⟩
          have hjn : j < n := by omega
          have hje : lo + i + (b + k) = b - 20 + j := by omega
          rw [hje] at HN
          have hcell := HO.out.cell hjn
          have hfr := HO.out.frozen j
          rw [getD_wr64] at hcell
          have HTS := hide (LP.of_set (b := b - 20) (ys := ts) (j := j) (by rw [HT.out.1]; exact hjn))
          have h3 := wr64_step (ts.getD j 0) sg x (ys.getD k 0)
          obtain ⟨v, hv⟩ : ∃ v, wr64 (ts.getD j 0 + sg * x * ys.getD k 0) = v := ⟨_, rfl⟩
          rw [hv] at h3
          have HO2 := HO.out.set_ j v
          rw [← hv, set_wr64, hv] at HO2
          have HT2 : Hid ((ts.set j (ts.getD j 0 + sg * x * ys.getD k 0)).length = n ∧ LP.of (b - 20) (ts.set j (ts.getD j 0 + sg * x * ys.getD k 0)) = apS S sg lo xs b ys i (k + 1)) := hide ⟨by rw [List.length_set]; exact HT.out.1, by rw [HTS.out, HT.out.2, HN.out]⟩
          generalize ts.set j (ts.getD j 0 + sg * x * ys.getD k 0) = ts2 at *
          have h1 : IntKind.i64.wrap (sg * x) = sg * x := by
            have := HXB.out
            rw [IntKind.wrap_i64]
            rcases HSG.out with h | h <;> rw [h] <;> omega
          obtain ⟨z, hz⟩ : ∃ z, IntKind.i64.wrap (sg * x * wr64 (ys.getD k 0)) = z := ⟨_, rfl⟩
          rw [hz] at h3
          have HO3 := hide HO2
          have hne1 : ad.block ≠ g := HGA.out (by have := HIM.out; omega) ad rfl
          have hne2 : bd.block ≠ g := HGB.out (by omega) bd rfl
          have HA2 := hide (HA.out.setCell (b := g) (fun _ a e => by injection e with e; subst e; exact hne1) j (.int .i64 v))
          have HB2 := hide (HB.out.setCell (b := g) (fun _ a e => by injection e with e; subst e; exact hne2) j (.int .i64 v))
          have B2 := hide (B0.out.far (p := ⟨g, j, none⟩) hbg (.int .i64 v))
          have HW2 := hide (HW.out.setCell (p := ⟨g, j, none⟩) (Nat.le_refl _) (.int .i64 v))
          generalize wr64 (ys.getD k 0) = yv at *
          generalize wr64 (ts.getD j 0) = tv at *
          have HKL := hide hkl
          have hi1 : IntKind.i64.wrap (20 + lo + i + k) = (j : Int) := by rw [IntKind.wrap_i64]; omega
          clear HTS HN HT HO HA HB B0 HW hne1 hne2 hv hje HO2 hkl
          go_wp2_with fail
          have hkl := HKL.out
          go_roundw
          case rel => exact ⟨k + 1, ts2, by omega, by go_num, HT2, HO3, HA2, HB2, B2, HW2⟩
          case measure => simp [intOf]; omega
        · have hkn : k = l := by omega
          subst hkn
          have HT2 : Hid (ts.length = n ∧ LP.of (b - 20) ts = apS S sg lo xs b ys (i + 1) 0) := hide ⟨HT.out.1, HT.out.2.trans HRW2.out⟩
          have him := HIM.out
          clear HT
          go_wp2_with fail
          go_roundw
          case rel => exact ⟨i + 1, ts, by omega, by go_num, HT2, HO, HA, HB, B0, HW⟩
          case measure => simp [intOf]; omega
    · have hin : i = m := by omega
      subst hin
      go_wp2_with fail
      go_returns
      exact ⟨rfl, ts, HT.out.1, HT.out.2.trans HE.out, HO.out, HW.out⟩
end Go.Proofs.Ytoaiblhlpdaeoaa
