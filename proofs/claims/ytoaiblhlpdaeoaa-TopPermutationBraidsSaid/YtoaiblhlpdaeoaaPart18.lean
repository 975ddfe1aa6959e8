/- Several texts in one. -/
import Derived.Test.YtoaiblhlpdaeoaaPart17
import Derived.Test.YtoaiblhlpdaeoaaBase1
import Derived.Test.YtoaiblhlpdaeoaaPart2
import Derived.Test.YtoaiblhlpdaeoaaPart1
import Derived.Test.YtoaiblhlpdaeoaaPart3
import Derived.Deep.DeepCutAuto
import Derived.Test.YtoaiblhlpdaeoaaPart7
import Derived.Test.YtoaiblhlpdaeoaaBase2
import Derived.Test.YtoaiblhlpdaeoaaPart8
import Derived.Test.YtoaiblhlpdaeoaaPart13
import Derived.Test.YtoaiblhlpdaeoaaPart4
/- Package garside: Word; the contracts together. (Written by tools/gen_gword.py.) -/
namespace Go.Proofs.Ytoaiblhlpdaeoaa
set_option linter.unusedVariables false
set_option linter.unusedSimpArgs false
open Go.RowKit

theorem half_fault {n : Nat} (h1 : 2 ≤ n) (h6 : n ≤ 6) : bfault (n : Int) (halfW n) = 0 :=
  bfault_ok (by omega) (by omega) (by have := (half_len h1 h6).2.1; omega) fun x hx => by have := okB_half n x hx; omega
set_option maxRecDepth 100000 in
set_option maxHeartbeats 8000000 in
theorem gWord_any (m k : Int) (A : Option Addr) (l c : Nat) (xss : List (List Int)) (w : World) (ha : SLL w A l c xss) (hm : (Lit.int .i64 m).wf = true) (hkw : (Lit.int .i64 k).wf = true) :
    Calls Try.prog 19 #[.int .i64 m, .int .i64 k, .slice A l c] w (GivesLE w (wordE m k xss) (wordL m k xss)) := by
  have HCK := hide (gcheck_any m A l c xss w ha hm)
  have HA := hide ha
  have HWM := hide hm
  clear ha hm
  by_cases h0 : ffE m xss = 0
  case neg =>
    have HE : Hid (wordE m k xss = ffE m xss) := hide (by unfold wordE; rw [if_pos h0])
    have HV : Hid (wordL m k xss = []) := hide (by unfold wordL; rw [HE.out, if_neg h0])
    obtain ⟨f, hf⟩ : ∃ f, ffE m xss = f := ⟨_, rfl⟩
    have HF := hide hf
    rw [hf] at h0
    have hne : (f != 0) = true := by simpa using h0
    clear hf h0
    go_enter Try.func19, Try.ntmps19
    go_wp2_with fail
    refine HCK.out.mono ?_
    rintro e w1 ⟨rfl, hb⟩
    rw [HF.out]
    have HB := hide hb
    clear hb
    go_wp2_with fail
    go_ret2
    rw [HE.out, HV.out, HF.out]
    exact ⟨none, 0, 0, rfl, SL.nil_ _, HB.out⟩
  by_cases h30 : 30 < k.natAbs
  · have HE : Hid (wordE m k xss = 2) := hide (by unfold wordE; rw [if_neg (by simp [h0]), if_pos h30])
    have HV : Hid (wordL m k xss = []) := hide (by unfold wordL; rw [HE.out, if_neg (by decide)])
    have HF := hide h0
    have hkk : k < -30 ∨ 30 < k := by omega
    clear h0 h30
    rcases hkk with hk | hk
    · have hd1 : decide (k < -30) = true := decide_eq_true hk
      clear hk
      go_enter Try.func19, Try.ntmps19
      go_wp2_with fail
      refine HCK.out.mono ?_
      rintro e w1 ⟨rfl, hb⟩
      rw [HF.out]
      have HB := hide hb
      clear hb
      go_wp2_with fail
      go_ret2
      rw [HE.out, HV.out]
      exact ⟨none, 0, 0, rfl, SL.nil_ _, HB.out⟩
    · have hd1 : decide (k < -30) = false := decide_eq_false (by omega)
      have hd2 : decide ((30 : Int) < k) = true := decide_eq_true hk
      clear hk
      go_enter Try.func19, Try.ntmps19
      go_wp2_with fail
      refine HCK.out.mono ?_
      rintro e w1 ⟨rfl, hb⟩
      rw [HF.out]
      have HB := hide hb
      clear hb
      go_wp2_with fail
      go_ret2
      rw [HE.out, HV.out]
      exact ⟨none, 0, 0, rfl, SL.nil_ _, HB.out⟩
  obtain ⟨n, ps, rfl, h2, h6, rfl, hpl, hPL, _⟩ := ffE_ok h0
  have HE : Hid (wordE (n : Int) k (ps.map zs) = if 30 < (wriW n k ps).length then 2 else 0) := hide (by unfold wordE; rw [if_neg (by simp [h0]), if_neg h30, Int.toNat_natCast, nlL_zs])
  have HV : Hid (wordL (n : Int) k (ps.map zs) = if 30 < (wriW n k ps).length then [] else wriW n k ps) := hide (by
    unfold wordL
    rw [HE.out, Int.toNat_natCast, nlL_zs]
    split
    · rw [if_neg (by decide)]
    · rw [if_pos rfl])
  have HF := hide h0
  have HP := hide hPL
  have HL : Hid (ps.length = l) := hide (by have := HA.out.len; rwa [List.length_map] at this)
  have hl30 : l ≤ 30 := by rw [← HL.out]; exact hpl
  have hd1 : decide (k < -30) = false := decide_eq_false (by omega)
  have hd2 : decide ((30 : Int) < k) = false := decide_eq_false (by omega)
  obtain ⟨q1, q2, _⟩ := half_len h2 h6
  have HQ1 := hide q1
  have HQ2 := hide q2
  have HOK := hide (okB_half n)
  obtain ⟨i0, hi0, hz0, hz1, hz2⟩ := info_parts int_info
  have HI0 := hide hi0
  have HZ0 := hide hz0
  have HZ1 := hide hz1
  have HZ2 := hide hz2
  clear h0 hpl hPL q1 q2 hi0 hz0 hz1 hz2
  go_enter Try.func19, Try.ntmps19
  go_wp2_with fail
  refine HCK.out.mono ?_
  rintro e w0 ⟨rfl, hb⟩
  rw [HF.out]
  have HW := hide hb
  clear hb HCK
  go_wp2_with fail
  refine (ghalf_any n w0 (by omega)).mono ?_
  rintro e w1 ⟨F, fn, fc, rfl, ho, hb⟩
  have hfn : fn = n := by have := ho.len; rw [zs_length, (full_isP n).2] at this; exact this.symm
  subst hfn
  replace HW := hide (HW.out.trans (hb.mono HW.out.size))
  have HS := hide (gword_any F fn fc _ w1 ho.sl (full_isP fn).1 (full_isP fn).2 (by omega) h6)
  clear hb ho
  go_wp2_with fail
  refine HS.out.mono ?_
  rintro e w2 ⟨H, hn, hc, rfl, ho, hb⟩
  change OwnI w2 w1.heap.size H hn hc (halfW fn) at ho
  have hhn := ho.len
  replace HW := hide (HW.out.trans (hb.mono HW.out.size))
  have HH := hide ho.sl
  have HHN := hide hhn
  have hq1 := HQ1.out
  have hq2 := HQ2.out
  rw [hhn] at hq1 hq2
  clear hb ho hhn HS
  by_cases hneg : k < 0
  · obtain ⟨q, hq⟩ : ∃ q : Nat, k = -(q : Int) := ⟨k.natAbs, by omega⟩
    subst hq
    have hq30 : q ≤ 30 := by omega
    have hwq : IntKind.i64.wrap (- -(q : Int)) = (q : Int) := by rw [IntKind.wrap_i64]; omega
    have hmx : max (-(q : Int)) (- -(q : Int)) = (q : Int) := by omega
    have hmx2 : max (-(q : Int)) (q : Int) = (q : Int) := by omega
    have HPW : Hid (powW fn (-(q : Int)) = rep (invw (halfW fn)) q) := hide (by unfold powW; rw [if_pos hneg, show (-(q : Int)).natAbs = q by omega])
    have HBI := hide (binv_any (fn : Int) H hn hc _ w2 HH.out (wfI (by omega)))
    have hfz := half_fault h2 h6
    rw [hfz, show invB (fn : Int) (halfW fn) = invw (halfW fn) by unfold invB; rw [if_pos hfz]] at HBI
    clear hfz
    go_wp2_with fail
    refine HBI.out.mono ?_
    rintro e w3 ⟨D, dn, dc, rfl, hs, hb⟩
    have hdn : dn = hn := by have := hs.il.len; rw [invw_length, HHN.out] at this; exact this.symm
    subst hdn
    replace HW := hide (HW.out.trans (hb.mono HW.out.size))
    have HRP := hide (repeat_all D dn dc q _ w3 hs.il hq1 (by omega) (by have := Nat.mul_le_mul hq30 hq2; omega))
    rw [← HPW.out] at HRP
    clear hb hs HBI
    go_wp2_with ((with_reducible show wpList _ _ _ (Oper.mk _ (.call { callee := .builtin .max, args := _, argTypes := _ }) _ _ _ _ :: _) _ _); refine wpList_gives rfl (gives_maxI rfl rfl rfl (by first | exact hmx | exact hmx2)) ?_)
    refine HRP.out.mono ?_
    rintro e w4 ⟨R, rn, rc, rfl, ho, hb⟩
    have hrn : rn ≤ 450 := by
      have h1 := ho.len
      rw [HPW.out, rep_length] at h1
      have h3 := invw_length (halfW fn)
      rw [h3, HHN.out] at h1
      have := Nat.mul_le_mul hq30 hq2
      omega
    have HPL := hide ho.len
    have HO : Hid (OwnI w4 w.heap.size R rn rc (powW fn (-(q : Int)) ++ facW (ps.take 0))) := hide (by
      rw [List.take_zero, show facW [] = [] from rfl, List.append_nil]
      exact ho.mono HW.out.size)
    replace HW := hide (HW.out.trans (hb.mono HW.out.size))
    clear hb ho HRP HPW hwq HH HHN hq1 hq2 hmx hmx2 hneg
    go_wp2_with fail
    go_loopw [10, 44] (fun ov iv wr => ∃ (j : Nat) (D : Option Addr) (dn dc : Nat), j ≤ l ∧ iv = .int .i64 j ∧ ov = .slice D dn dc ∧ Hid (OwnI wr w.heap.size D dn dc (powW fn (-(q : Int)) ++ facW (ps.take j))) ∧ Hid (Below w.heap.size w wr)) (fun _ iv _ => l - (intOf iv).toNat)
    case atStart => exact ⟨0, R, rn, rc, Nat.zero_le _, rfl, rfl, HO, HW⟩
    case round =>
      clear HO HW
      obtain ⟨j, D, dn, dc, hj, rfl, rfl, HO, HB⟩ := hrel
      by_cases hjl : j < l
      · have hjp : j < ps.length := by rw [HL.out]; exact hjl
        obtain ⟨ad, B, bm, bd, rfl, hcl, hr⟩ := (HA.out.below HB.out).at_ hjl
        have hpm : ps.getD j [] ∈ ps := by rw [show ps.getD j [] = ps[j] by simp [List.getD, hjp]]; exact List.getElem_mem _
        obtain ⟨pp1, pp2⟩ := HP.out _ hpm
        rw [show (ps.map zs).getD j [] = zs (ps.getD j []) by simp [List.getD, hjp]] at hr
        have hbm : bm = fn := by have := hr.il.len; rw [zs_length, pp2] at this; exact this.symm
        subst hbm
        have HSP := hide (gword_any B bm bd _ wr hr pp1 pp2 (by omega) h6)
        have HFT := hide (facW_take hjp)
        have hdn : dn ≤ 2000 := by
          have h1 := HO.out.len
          rw [List.length_append, HPL.out] at h1
          have h3 := facW_len (n := bm) (l := ps.take j) (fun p hp => (HP.out p (List.mem_of_mem_take hp)).2) h6
          rw [List.length_take] at h3
          omega
        have hwl : (wrd (ps.getD j [])).length ≤ 36 := by
          have h1 := wrd_len (ps.getD j [])
          rw [pp2] at h1
          have := Nat.mul_le_mul h6 h6
          omega
        have HWL := hide hwl
        have HJL := hide hjl
        clear hjp hr hpm pp1 pp2 hwl
        generalize ps.getD j [] = p at *
        go_wp2_with fail
        refine HSP.out.mono ?_
        rintro e w5 ⟨S, sn, sc, rfl, ho, hb⟩
        have hsn : sn ≤ 36 := by have := ho.len; have := HWL.out; omega
        have HS5 := hide ho.il
        have hO5 := HO.out.below hb
        have HO5 := hide hO5
        have HB5 := hide (HB.out.trans (hb.mono HB.out.size))
        have hsz5 := HB5.out.size
        clear hb ho hO5 HSP hcl
        go_wp2_with (at_builtin; refine wpList_append_int _ rfl (.tmp 48) (.tmp 50) 22 rfl w.heap.size i0 Try.underlying22 HI0.out HZ0.out HZ1.out HZ2.out D dn dc _ rfl HO5.out S sn sc (wrd p) rfl HS5.out (by omega) hsz5 ?_; intro A9 c9 w9 happ)
        have ho := happ.own
        rw [List.append_assoc, ← HFT.out] at ho
        have HO9 := hide ho
        have hb9 : Below w.heap.size w w9 := HB5.out.grown happ.grown hsz5 (fun b hb => (HO5.out.lt b (by rw [ownBlock_len D dn (dn + sn) dc dc]; exact hb)).1)
        have HB9 := hide hb9
        clear ho hb9 happ
        have hjl := HJL.out
        go_wp2_with fail
        go_roundw
        case rel => exact ⟨j + 1, A9, dn + sn, c9, by omega, by go_num, rfl, HO9, HB9⟩
        case measure => simp [intOf]; omega
      · have hjl2 : j = l := by omega
        have HEW : Hid (OwnI wr w.heap.size D dn dc (wriW fn (-(q : Int)) ps)) := hide (by
          have h := HO.out
          rw [hjl2, List.take_of_length_le (by rw [HL.out]; exact Nat.le_refl _)] at h
          exact h)
        have HLN := hide HEW.out.len
        clear HO hjl2
        by_cases h31 : 30 < dn
        · have hdd : decide ((30 : Int) < (dn : Int)) = true := decide_eq_true (by omega)
          have HE2 := hide (HE.out.trans (if_pos (by rw [HLN.out]; exact h31)))
          have HV2 := hide (HV.out.trans (if_pos (by rw [HLN.out]; exact h31)))
          clear h31
          go_wp2_with fail
          go_ret2
          rw [HE2.out, HV2.out]
          exact ⟨none, 0, 0, rfl, SL.nil_ _, HB.out⟩
        · have hdd : decide ((30 : Int) < (dn : Int)) = false := decide_eq_false (by omega)
          have HE2 := hide (HE.out.trans (if_neg (by rw [HLN.out]; exact h31)))
          have HV2 := hide (HV.out.trans (if_neg (by rw [HLN.out]; exact h31)))
          clear h31
          go_wp2_with fail
          go_ret2
          rw [HE2.out, HV2.out]
          exact ⟨D, dn, dc, rfl, HEW.out.sl, HB.out⟩
  · obtain ⟨q, hq⟩ : ∃ q : Nat, k = (q : Int) := ⟨k.natAbs, by omega⟩
    subst hq
    have hq30 : q ≤ 30 := by omega
    have hwq : IntKind.i64.wrap (-(q : Int)) = -(q : Int) := by rw [IntKind.wrap_i64]; omega
    have hmx : max (q : Int) (-(q : Int)) = (q : Int) := by omega
    have hmx2 : True := trivial
    have HPW : Hid (powW fn (q : Int) = rep (halfW fn) q) := hide (by unfold powW; rw [if_neg hneg, Int.natAbs_natCast])
    have HRP := hide (repeat_all H hn hc q _ w2 HH.out.il hq1 (by omega) (by have := Nat.mul_le_mul hq30 hq2; omega))
    rw [← HPW.out] at HRP
    go_wp2_with ((with_reducible show wpList _ _ _ (Oper.mk _ (.call { callee := .builtin .max, args := _, argTypes := _ }) _ _ _ _ :: _) _ _); refine wpList_gives rfl (gives_maxI rfl rfl rfl (by first | exact hmx | exact hmx2)) ?_)
    refine HRP.out.mono ?_
    rintro e w4 ⟨R, rn, rc, rfl, ho, hb⟩
    have hrn : rn ≤ 450 := by
      have h1 := ho.len
      rw [HPW.out, rep_length] at h1
      rw [HHN.out] at h1
      have := Nat.mul_le_mul hq30 hq2
      omega
    have HPL := hide ho.len
    have HO : Hid (OwnI w4 w.heap.size R rn rc (powW fn (q : Int) ++ facW (ps.take 0))) := hide (by
      rw [List.take_zero, show facW [] = [] from rfl, List.append_nil]
      exact ho.mono HW.out.size)
    replace HW := hide (HW.out.trans (hb.mono HW.out.size))
    clear hb ho HRP HPW hwq HH HHN hq1 hq2 hmx hmx2 hneg
    go_wp2_with fail
    go_loopw [10, 44] (fun ov iv wr => ∃ (j : Nat) (D : Option Addr) (dn dc : Nat), j ≤ l ∧ iv = .int .i64 j ∧ ov = .slice D dn dc ∧ Hid (OwnI wr w.heap.size D dn dc (powW fn (q : Int) ++ facW (ps.take j))) ∧ Hid (Below w.heap.size w wr)) (fun _ iv _ => l - (intOf iv).toNat)
    case atStart => exact ⟨0, R, rn, rc, Nat.zero_le _, rfl, rfl, HO, HW⟩
    case round =>
      clear HO HW
      obtain ⟨j, D, dn, dc, hj, rfl, rfl, HO, HB⟩ := hrel
      by_cases hjl : j < l
      · have hjp : j < ps.length := by rw [HL.out]; exact hjl
        obtain ⟨ad, B, bm, bd, rfl, hcl, hr⟩ := (HA.out.below HB.out).at_ hjl
        have hpm : ps.getD j [] ∈ ps := by rw [show ps.getD j [] = ps[j] by simp [List.getD, hjp]]; exact List.getElem_mem _
        obtain ⟨pp1, pp2⟩ := HP.out _ hpm
        rw [show (ps.map zs).getD j [] = zs (ps.getD j []) by simp [List.getD, hjp]] at hr
        have hbm : bm = fn := by have := hr.il.len; rw [zs_length, pp2] at this; exact this.symm
        subst hbm
        have HSP := hide (gword_any B bm bd _ wr hr pp1 pp2 (by omega) h6)
        have HFT := hide (facW_take hjp)
        have hdn : dn ≤ 2000 := by
          have h1 := HO.out.len
          rw [List.length_append, HPL.out] at h1
          have h3 := facW_len (n := bm) (l := ps.take j) (fun p hp => (HP.out p (List.mem_of_mem_take hp)).2) h6
          rw [List.length_take] at h3
          omega
        have hwl : (wrd (ps.getD j [])).length ≤ 36 := by
          have h1 := wrd_len (ps.getD j [])
          rw [pp2] at h1
          have := Nat.mul_le_mul h6 h6
          omega
        have HWL := hide hwl
        have HJL := hide hjl
        clear hjp hr hpm pp1 pp2 hwl
        generalize ps.getD j [] = p at *
        go_wp2_with fail
        refine HSP.out.mono ?_
        rintro e w5 ⟨S, sn, sc, rfl, ho, hb⟩
        have hsn : sn ≤ 36 := by have := ho.len; have := HWL.out; omega
        have HS5 := hide ho.il
        have hO5 := HO.out.below hb
        have HO5 := hide hO5
        have HB5 := hide (HB.out.trans (hb.mono HB.out.size))
        have hsz5 := HB5.out.size
        clear hb ho hO5 HSP hcl
        go_wp2_with (at_builtin; refine wpList_append_int _ rfl (.tmp 48) (.tmp 50) 22 rfl w.heap.size i0 Try.underlying22 HI0.out HZ0.out HZ1.out HZ2.out D dn dc _ rfl HO5.out S sn sc (wrd p) rfl HS5.out (by omega) hsz5 ?_; intro A9 c9 w9 happ)
        have ho := happ.own
        rw [List.append_assoc, ← HFT.out] at ho
        have HO9 := hide ho
        have hb9 : Below w.heap.size w w9 := HB5.out.grown happ.grown hsz5 (fun b hb => (HO5.out.lt b (by rw [ownBlock_len D dn (dn + sn) dc dc]; exact hb)).1)
        have HB9 := hide hb9
        clear ho hb9 happ
        have hjl := HJL.out
        go_wp2_with fail
        go_roundw
        case rel => exact ⟨j + 1, A9, dn + sn, c9, by omega, by go_num, rfl, HO9, HB9⟩
        case measure => simp [intOf]; omega
      · have hjl2 : j = l := by omega
        have HEW : Hid (OwnI wr w.heap.size D dn dc (wriW fn (q : Int) ps)) := hide (by
          have h := HO.out
          rw [hjl2, List.take_of_length_le (by rw [HL.out]; exact Nat.le_refl _)] at h
          exact h)
        have HLN := hide HEW.out.len
        clear HO hjl2
        by_cases h31 : 30 < dn
        · have hdd : decide ((30 : Int) < (dn : Int)) = true := decide_eq_true (by omega)
          have HE2 := hide (HE.out.trans (if_pos (by rw [HLN.out]; exact h31)))
          have HV2 := hide (HV.out.trans (if_pos (by rw [HLN.out]; exact h31)))
          clear h31
          go_wp2_with fail
          go_ret2
          rw [HE2.out, HV2.out]
          exact ⟨none, 0, 0, rfl, SL.nil_ _, HB.out⟩
        · have hdd : decide ((30 : Int) < (dn : Int)) = false := decide_eq_false (by omega)
          have HE2 := hide (HE.out.trans (if_neg (by rw [HLN.out]; exact h31)))
          have HV2 := hide (HV.out.trans (if_neg (by rw [HLN.out]; exact h31)))
          clear h31
          go_wp2_with fail
          go_ret2
          rw [HE2.out, HV2.out]
          exact ⟨D, dn, dc, rfl, HEW.out.sl, HB.out⟩

theorem garC : GarC where
  normal := gnormal_any
  check := gcheck_any
  word := gWord_any
  equal := gequal_any
end Go.Proofs.Ytoaiblhlpdaeoaa
/- timbref1.Image. (Written by tools/gen_image.py.) -/
namespace Go.Proofs.Ytoaiblhlpdaeoaa
set_option linter.unusedVariables false
set_option linter.unusedSimpArgs false
open Go.RowKit

def bz (B : Nat) (u : List Int) : Prop := ∀ z ∈ u, z ≠ 0 ∧ z.natAbs ≤ B
theorem bz.nz {B : Nat} {u : List Int} (h : bz B u) : Proofs.Ytoaiblhlpdaeoaa.nz u := fun z hz => (h z hz).1
theorem bz.inv {B : Nat} {u : List Int} (h : bz B u) : bz B (invw u) := fun z hz => by
  have : ∃ x ∈ u, -x = z := by simpa [invw] using hz
  obtain ⟨x, hx, rfl⟩ := this
  have := h x hx
  omega
end Go.Proofs.Ytoaiblhlpdaeoaa
/- timbmake.Strands; timbkeep1.sides. -/
namespace Go.Proofs.Ytoaiblhlpdaeoaa
set_option linter.unusedVariables false
set_option linter.unusedSimpArgs false
open Go.RowKit

/-- Two words that are equal by a relation. -/
structure Side (N : Nat) (xs ys : List Int) : Prop where
  b : RelB xs ys
  e : RelE xs ys
  x : LP.expo xs = LP.expo ys
  ok1 : okB N xs
  ok2 : okB N ys
  l1 : xs.length ≤ 3
  l2 : ys.length ≤ 3
  a : RelA xs ys
end Go.Proofs.Ytoaiblhlpdaeoaa
/- GarsideSame. -/
namespace Go.Proofs.Ytoaiblhlpdaeoaa
set_option linter.unusedVariables false
set_option linter.unusedSimpArgs false
open Go.RowKit Gar

theorem bf_ok {n : Nat} (h1 : 1 ≤ n) (h6 : n ≤ 6) {w : List Int} (hw : okB n w) (hl : w.length ≤ 30) : bfault (n : Int) w = 0 := bfault_ok (by omega) (by omega) hl fun x hx => by have := hw x hx; omega
theorem eq2_ok {n : Nat} {a b : List Int} (h1 : bfault (n : Int) a = 0) (h2 : bfault (n : Int) b = 0) : eq2E (n : Int) a b = 0 := by unfold eq2E; rw [if_neg (by rw [h1]; simp), h2]
open Classical in
theorem geq_yes {n : Nat} {a b : List Int} (h1 : bfault (n : Int) a = 0) (h2 : bfault (n : Int) b = 0) (e : gp n a = gp n b) : geqB (n : Int) a b = true := by
  unfold geqB
  rw [Int.toNat_natCast, decide_eq_true (eq2_ok h1 h2), decide_eq_true e]
  rfl
/-- What Word gives for a normal form. -/
theorem word_nf {n : Nat} (h2 : 2 ≤ n) (h6 : n ≤ 6) {xs : List Int} {k : Int} {l : List (List Nat)} (h : NFw n xs k l) (hl : l.length ≤ 30) (hk : k.natAbs ≤ 30) :
    (wordE (n : Int) k (l.map zs) = 2 ∧ wordL (n : Int) k (l.map zs) = []) ∨ (wordE (n : Int) k (l.map zs) = 0 ∧ wordL (n : Int) k (l.map zs) = wriW n k l ∧ bfault (n : Int) (wriW n k l) = 0 ∧ gp n (wriW n k l) = gp n xs) := by
  have h0 := ffE_nf h2 h6 h.pl h.nf hl
  by_cases h30 : 30 < (wriW n k l).length
  · refine .inl ?_
    have e1 : wordE (n : Int) k (l.map zs) = 2 := by unfold wordE; rw [if_neg (by rw [h0]; simp), if_neg (by omega), Int.toNat_natCast, nlL_zs, if_pos h30]
    exact ⟨e1, by unfold wordL; rw [if_neg (by rw [e1]; decide)]⟩
  · refine .inr ?_
    have e1 : wordE (n : Int) k (l.map zs) = 0 := by unfold wordE; rw [if_neg (by rw [h0]; simp), if_neg (by omega), Int.toNat_natCast, nlL_zs, if_neg h30]
    exact ⟨e1, by unfold wordL; rw [if_pos e1, Int.toNat_natCast, nlL_zs], bf_ok (by omega) h6 (okB_wri k h.pl) (by omega), by rw [gp_wri k h.pl, h.val]⟩

end Go.Proofs.Ytoaiblhlpdaeoaa
/- timbmake.Strands for any greatest number; slices.Concat of two slices. -/
namespace Go.Proofs.Ytoaiblhlpdaeoaa
set_option linter.unusedVariables false
set_option linter.unusedSimpArgs false
open Go.RowKit

set_option maxRecDepth 100000 in
theorem strands_gen (n : Int) (K : Nat) (kz : Int) (hkz : kz = (K : Int) + 1) (h1 : 1 ≤ K) (hK : K ≤ 10) (w : World) : Calls Try.prog 23 #[.int .i64 n, .int .i64 kz] w fun e w' => ∃ T : Nat, 1 ≤ T ∧ T ≤ K ∧ e = .returned (.int .i64 ((T : Int) + 1)) ∧ w = w' := by
  subst hkz
  obtain ⟨p, hp⟩ : ∃ p : Nat, n % (K : Int) = (p : Int) := ⟨(n % (K : Int)).toNat, by have := Int.emod_nonneg n (show (K : Int) ≠ 0 by omega); omega⟩
  have hp5 : p < K := by have := Int.emod_lt_of_pos n (show (0 : Int) < (K : Int) by omega); omega
  have HP := hide hp
  have hadd : IntKind.i64.wrap (2 + (p : Int)) = ((p + 1 : Nat) : Int) + 1 := by rw [IntKind.wrap_i64]; omega
  have HA := hide hadd
  have hs1 : (K : Int) + 1 - 1 = (K : Int) := by omega
  have hs2 : IntKind.i64.wrap (K : Int) = (K : Int) := by rw [IntKind.wrap_i64]; omega
  clear hp hadd
  go_enter Try.func23, Try.ntmps23
  go_wp2_with fail
  refine (mbelow_any n K _ h1 (by omega)).mono ?_
  rintro e w1 ⟨rfl, hww⟩
  subst hww
  rw [HP.out]
  go_wp2_with ((with_reducible show wpList _ _ _ (Oper.mk _ (.binOp .add _ _ _) _ _ _ _ :: _) _ _); refine wpList_gives rfl (gives_add rfl rfl rfl HA.out) ?_)
  go_ret
  exact ⟨p + 1, by omega, by omega, by
    have e : IntKind.i64.wrap (2 + (p : Int)) = ((p + 1 : Nat) : Int) + 1 := HA.out
    first | rfl | (simp; omega) | (simp [e]; omega), rfl⟩
end Go.Proofs.Ytoaiblhlpdaeoaa
/- GarsideCenter. -/
namespace Go.Proofs.Ytoaiblhlpdaeoaa
set_option linter.unusedVariables false
set_option linter.unusedSimpArgs false
open Go.RowKit Gar

theorem zp_one (n : Nat) : zp n 1 = dl n := by
  have := zp_nat n 1
  rw [show ((1 : Nat) : Int) = 1 from rfl] at this
  rw [this]
  exact G_mul_one _
theorem gp_full2 (n : Nat) : gp n (halfW n ++ halfW n) = zp n 2 := by
  rw [← gp_mul, gp_half, ← zp_one, zp_addI]
  rfl
theorem NFw.full {n : Nat} (h2 : 2 ≤ n) {xs : List Int} {k : Int} {l : List (List Nat)} (h : NFw n xs k l) : NFw n (halfW n ++ halfW n ++ xs) (k + 2) l := by
  refine ⟨h.pl, h.nf, ?_, fun e => by omega⟩
  rw [show gp n (halfW n ++ halfW n ++ xs) = gp n (halfW n ++ halfW n) * gp n xs from rfl, gp_full2, ← h.val]
  unfold nfv
  rw [← G_assoc, zp_addI, Int.add_comm]
end Go.Proofs.Ytoaiblhlpdaeoaa
/- timbkeep1.BraidRelations, for a package braid that answers as it should. (Written by tools/gen_brrel.py.) -/
namespace Go.Proofs.Ytoaiblhlpdaeoaa
set_option linter.unusedVariables false
set_option linter.unusedSimpArgs false
open Go.RowKit

theorem buL_congr {n : Nat} {a b : List Int} (h : EqM n (bu n a) (bu n b)) : buL n a = buL n b := by
  unfold buL
  exact List.map_congr_left fun i hi => List.map_congr_left fun j hj => by rw [h i (List.mem_range.1 hi) j (List.mem_range.1 hj)]
theorem okB_append {n : Nat} {a b : List Int} (ha : okB n a) (hb : okB n b) : okB n (a ++ b) := fun x hx => (List.mem_append.1 hx).elim (ha x) (hb x)
theorem bfault_T {T : Nat} (h5 : T ≤ 5) {a : List Int} (ha : okB (T + 1) a) (hl : a.length ≤ 30) : bfault ((T : Int) + 1) a = 0 :=
  bfault_ok (by omega) (by omega) hl fun x hx => by have := ha x hx; omega
theorem burE_T {T : Nat} (h5 : T ≤ 5) {a : List Int} (ha : okB (T + 1) a) (hl : a.length ≤ 16) : burE ((T : Int) + 1) a = 0 := by
  unfold burE
  rw [bfault_T h5 ha (by omega), if_pos rfl, if_neg (by omega)]
theorem burL_T {T : Nat} (h5 : T ≤ 5) {a : List Int} (ha : okB (T + 1) a) (hl : a.length ≤ 16) : burL ((T : Int) + 1) a = buL (T + 1) a := by
  unfold burL
  rw [burE_T h5 ha hl, if_pos rfl]
  rfl
theorem permE_T {T : Nat} (h5 : T ≤ 5) {a : List Int} (ha : okB (T + 1) a) (hl : a.length ≤ 30) : permE ((T : Int) + 1) a = zs (endsL (T + 1) a) := by
  unfold permE
  rw [bfault_T h5 ha hl, if_pos rfl]
  rfl
theorem expoB_T {T : Nat} (h5 : T ≤ 5) {a : List Int} (ha : okB (T + 1) a) (hl : a.length ≤ 30) : expoB ((T : Int) + 1) a = LP.expo a := by
  unfold expoB
  rw [bfault_T h5 ha hl, if_pos rfl]
theorem expo_app (a b : List Int) : LP.expo (a ++ b) = LP.expo a + LP.expo b := wsum_append _ _ _
/-- What is alike in two words that are equal by a relation. -/
structure Alike (T : Nat) (a b : List Int) : Prop where
  fa : bfault ((T : Int) + 1) a = 0
  fb : bfault ((T : Int) + 1) b = 0
  ba : burE ((T : Int) + 1) a = 0
  bb : burE ((T : Int) + 1) b = 0
  perm : permE ((T : Int) + 1) a = permE ((T : Int) + 1) b
  expo : expoB ((T : Int) + 1) a = expoB ((T : Int) + 1) b
  bur : burL ((T : Int) + 1) a = burL ((T : Int) + 1) b
  len : (burL ((T : Int) + 1) a).length = T + 1
theorem alike {T : Nat} (h5 : T ≤ 5) {us vs xs ys : List Int} (h : Side (T + 1) xs ys) (hu : okB (T + 1) us) (hv : okB (T + 1) vs) (lu : us.length ≤ 6) (lv : vs.length ≤ 6) : Alike T (us ++ xs ++ vs) (us ++ ys ++ vs) := by
  have oa := okB_append (okB_append hu h.ok1) hv
  have ob := okB_append (okB_append hu h.ok2) hv
  have la : (us ++ xs ++ vs).length ≤ 16 := by simp only [List.length_append]; have := h.l1; omega
  have lb : (us ++ ys ++ vs).length ≤ 16 := by simp only [List.length_append]; have := h.l2; omega
  refine ⟨bfault_T h5 oa (by omega), bfault_T h5 ob (by omega), burE_T h5 oa la, burE_T h5 ob lb, ?_, ?_, ?_, ?_⟩
  · rw [permE_T h5 oa (by omega), permE_T h5 ob (by omega), h.e.ends]
  · rw [expoB_T h5 oa (by omega), expoB_T h5 ob (by omega), expo_app, expo_app, expo_app, expo_app, h.x]
  · rw [burL_T h5 oa la, burL_T h5 ob lb]
    exact buL_congr (h.b.bu h.ok1 h.ok2 us vs)
  · rw [burL_T h5 oa la]
    simp [buL]

end Go.Proofs.Ytoaiblhlpdaeoaa
/- timbkeep1.BraidHomomorphisms, for a package braid that answers as it should. (Written by tools/gen_brhom.py.) -/
namespace Go.Proofs.Ytoaiblhlpdaeoaa
set_option linter.unusedVariables false
set_option linter.unusedSimpArgs false
open Go.RowKit

theorem endsL_getD {n j : Nat} (w : List Int) (hj : j < n) : (endsL n w).getD j 0 = endE w j := by
  simp [endsL, List.getD, hj]
end Go.Proofs.Ytoaiblhlpdaeoaa
/- Words of permutation braids: TITS. -/
namespace Go.Proofs.Ytoaiblhlpdaeoaa
set_option linter.unusedVariables false
set_option linter.unusedSimpArgs false
open Gar

theorem end_up : ∀ (u : List Nat) (s : Nat), endE (u.map up) s = pmW u s
  | [], _ => rfl
  | i :: u, s => by
    show endE (u.map up) (stepE s (up i)) = pmW u (sw i s)
    rw [end_up u]
    congr 1
    unfold stepE sw up
    have : ((i : Int) + 1).natAbs = i + 1 := by omega
    rw [this]
    grind
theorem ends_wrd {n : Nat} {p : List Nat} (hp : isP p) (hl : p.length = n) : endsL n (wrd p) = p := by
  refine list_ext (by rw [endsL_length, hl]) fun s hs => ?_
  rw [endsL_length] at hs
  rw [endsL_getD _ hs]
  show endE ((spl (p.length * p.length) p).map up) s = _
  rw [end_up]
  exact (elt_spec hp hl).2 s hs
def invP (n : Nat) (p : List Nat) : Nat := Gar.inv (fun s => p.getD s 0) n
theorem wrd_inv {n : Nat} {p : List Nat} (hp : isP p) (hl : p.length = n) : (wrd p).length = invP n p := by
  obtain ⟨h1, h2⟩ := elt_spec hp hl
  have h3 := h1.2
  unfold invP
  rw [← inv_congr (f := pm (elt p)) fun a ha => h2 a ha, ← h3]
  unfold wrd
  rw [List.length_map]
  rfl
theorem wrd_pos {p : List Nat} : ∀ x ∈ wrd p, 1 ≤ x := fun x hx => by
  obtain ⟨i, _, rfl⟩ := List.mem_map.1 hx
  unfold up
  omega
theorem inv_le18 {n : Nat} (h6 : n ≤ 6) (p : List Nat) : invP n p ≤ 18 := by
  have h := inv_max (n := n) (fun s => p.getD s 0)
  have := Nat.mul_le_mul h6 h6
  unfold invP
  omega
theorem tw_len {n : Nat} (h2 : 2 ≤ n) (h6 : n ≤ 6) : 2 * len (tw n) = n * (n - 1) := by
  rw [← (half_len h2 h6).2.2, ← (elt_full (full_isP n).1 (full_isP n).2).2 rfl]
  unfold halfW wrd
  rw [List.length_map]
  rfl
theorem elt_len {n : Nat} {p : List Nat} (hp : isP p) (hl : p.length = n) : len (elt p) = invP n p := by
  rw [← wrd_inv hp hl]
  unfold wrd
  rw [List.length_map]
  rfl
/-- What Word and NormalForm answer for one factor. -/
structure TitsF (n : Nat) (p : List Nat) (k : Int) (l : List (List Nat)) : Prop where
  we : wordE (n : Int) k (l.map zs) = 0
  wl : wordL (n : Int) k (l.map zs) = wrd p
  nf : NFw n (wrd p) k l
theorem tits_of {n : Nat} (h2 : 2 ≤ n) (h6 : n ≤ 6) {p : List Nat} (hp : isP p) (hl : p.length = n) {k : Int} {l : List (List Nat)} (hk : k.natAbs ≤ 1) (hll : l.length ≤ 1) (hpl : PL n l) (hnf : NF n (l.map elt)) (hw : wriW n k l = wrd p) : TitsF n p k l := by
  have hN : NFw n (wrd p) k l := ⟨hpl, hnf, by rw [← gp_wri k hpl, hw], fun e => by omega⟩
  have hlen : (wrd p).length ≤ 18 := by rw [wrd_inv hp hl]; exact inv_le18 h6 p
  rcases word_nf h2 h6 hN (by omega) (by omega) with ⟨e1, _⟩ | ⟨e1, e2, _⟩
  · exfalso
    have hf := ffE_nf h2 h6 hpl hnf (by omega)
    unfold wordE at e1
    rw [if_neg (by rw [hf]; simp), if_neg (by omega), Int.toNat_natCast, nlL_zs, hw, if_neg (by omega)] at e1
    omega
  · exact ⟨e1, by rw [e2, hw], hN⟩
theorem nf_nil (n : Nat) : NF n (([] : List (List Nat)).map elt) := ⟨trivial, fun a ha => (by cases ha), fun a ha => (by cases ha)⟩
theorem tits_zero {n : Nat} (h2 : 2 ≤ n) (h6 : n ≤ 6) {p : List Nat} (hp : isP p) (hl : p.length = n) (h : invP n p = 0) : TitsF n p 0 [] := by
  refine tits_of h2 h6 hp hl (by omega) (by simp) (fun q hq => by cases hq) (nf_nil n) ?_
  have e := wrd_inv hp hl
  rw [h] at e
  rw [List.eq_nil_of_length_eq_zero e]
  rfl
theorem tits_full {n : Nat} (h2 : 2 ≤ n) (h6 : n ≤ 6) {p : List Nat} (hp : isP p) (hl : p.length = n) (h : 2 * invP n p = n * (n - 1)) : TitsF n p 1 [] := by
  refine tits_of h2 h6 hp hl (by omega) (by simp) (fun q hq => by cases hq) (nf_nil n) ?_
  have e1 := elt_len hp hl
  have e2 := tw_len h2 h6
  have e3 := (elt_spec hp hl).1.dv.antisymm (by omega)
  rw [(elt_full hp hl).1 e3]
  unfold wriW powW
  rw [if_neg (by omega)]
  show rep (halfW n) 1 ++ [] = _
  rw [rep_one, List.append_nil]
  rfl
theorem tits_one {n : Nat} (h2 : 2 ≤ n) (h6 : n ≤ 6) {p : List Nat} (hp : isP p) (hl : p.length = n) (h : invP n p ≠ 0) (h' : 2 * invP n p ≠ n * (n - 1)) : TitsF n p 0 [p] := by
  refine tits_of h2 h6 hp hl (by omega) (by simp) (fun q hq => by simp at hq; subst hq; exact ⟨hp, hl⟩) ⟨(elt_spec hp hl).1, fun a ha => ?_, fun a ha => ?_⟩ ?_
  · simp at ha
    subst ha
    intro e
    have := elt_len hp hl
    rw [e, len_one] at this
    exact h this.symm
  · simp at ha
    subst ha
    intro e
    have := elt_len hp hl
    rw [e] at this
    have := tw_len h2 h6
    omega
  · unfold wriW powW
    show rep _ 0 ++ (wrd p ++ []) = wrd p
    rw [rep_zero, List.append_nil, List.nil_append]
end Go.Proofs.Ytoaiblhlpdaeoaa
/- timbtop.equal: a fact about the word problem. -/
namespace Go.Proofs.Ytoaiblhlpdaeoaa
set_option linter.unusedVariables false
set_option linter.unusedSimpArgs false
open Go.RowKit Gar

theorem gp_121 : gp 3 [1, 2, 1] = gp 3 [2, 1, 2] := gp_nb (n := 3) (i := 0) (j := 1) (.inl rfl) (by omega) (by omega)
theorem art_12 : eqA 3 [1, 2] [2, 1] = false ∧ eqE 3 [1, 2] [2, 1] = 0 := by decide +kernel

set_option maxRecDepth 100000 in
set_option maxHeartbeats 2000000 in
theorem equal_top (F : GarC) (G : ArtinC) (w : World) : Calls Try.prog 35 #[] w fun e w' => e = .returned (.bool true) ∧ Below w.heap.size w w' := by
  have HF := hide F
  have HG := hide G
  clear F G
  have hnf := Bool.not_false
  go_enter Try.func35, Try.ntmps35
  have L1 := SL.lit w [1, 2, 1] (by decide) (cs := #[.int .i64 1, .int .i64 2, .int .i64 1]) rfl (m := 3) rfl
  have hal : Below w.heap.size w (w.alloc (.cells #[.int .i64 1, .int .i64 2, .int .i64 1] 3)) := (Below.refl _ _).alloc (Nat.le_refl _) _
  have L2 := SL.lit (w.alloc (.cells #[.int .i64 1, .int .i64 2, .int .i64 1] 3)) [2, 1, 2] (by decide) (cs := #[.int .i64 2, .int .i64 1, .int .i64 2]) rfl (m := 3) rfl
  have hal2 : Below (w.alloc (.cells #[.int .i64 1, .int .i64 2, .int .i64 1] 3)).heap.size (w.alloc (.cells #[.int .i64 1, .int .i64 2, .int .i64 1] 3)) ((w.alloc (.cells #[.int .i64 1, .int .i64 2, .int .i64 1] 3)).alloc (.cells #[.int .i64 2, .int .i64 1, .int .i64 2] 3)) := (Below.refl _ _).alloc (Nat.le_refl _) _
  have M1 := hide (L1.below hal2)
  rw [World.size_alloc] at L2
  have M2 := hide L2
  have HW := hide (hal.trans (hal2.mono hal.size))
  clear L1 L2 hal hal2
  go_wp2_with fail
  refine (HF.out.equal 3 _ 3 3 _ _ 3 3 _ _ M1.out M2.out (by decide)).mono ?_
  rintro e w1 ⟨rfl, hb⟩
  rw [show geqB 3 [1, 2, 1] [2, 1, 2] = true from geq_yes (n := 3) (by decide) (by decide) gp_121, show eq2E 3 [1, 2, 1] [2, 1, 2] = 0 from by decide]
  replace HW := hide (HW.out.trans (hb.mono HW.out.size))
  clear hb M1 M2
  have L1 := SL.lit w1 [1, 2] (by decide) (cs := #[.int .i64 1, .int .i64 2]) rfl (m := 2) rfl
  have hal : Below w1.heap.size w1 (w1.alloc (.cells #[.int .i64 1, .int .i64 2] 3)) := (Below.refl _ _).alloc (Nat.le_refl _) _
  have L2 := SL.lit (w1.alloc (.cells #[.int .i64 1, .int .i64 2] 3)) [2, 1] (by decide) (cs := #[.int .i64 2, .int .i64 1]) rfl (m := 2) rfl
  have hal2 : Below (w1.alloc (.cells #[.int .i64 1, .int .i64 2] 3)).heap.size (w1.alloc (.cells #[.int .i64 1, .int .i64 2] 3)) ((w1.alloc (.cells #[.int .i64 1, .int .i64 2] 3)).alloc (.cells #[.int .i64 2, .int .i64 1] 3)) := (Below.refl _ _).alloc (Nat.le_refl _) _
  have M1 := hide (L1.below hal2)
  rw [World.size_alloc] at L2
  have M2 := hide L2
  have HW1 := hide (HW.out.trans ((hal.trans (hal2.mono hal.size)).mono HW.out.size))
  clear L1 L2 hal hal2
  go_wp2_with fail
  refine (HG.out.equal 3 _ 2 2 _ _ 2 2 _ _ M1.out M2.out (by decide)).mono ?_
  rintro e w2 ⟨rfl, hb⟩
  rw [art_12.1, art_12.2]
  replace HW1 := hide (HW1.out.trans (hb.mono HW1.out.size))
  clear hb M1 M2
  go_wp2_with fail
  go_ret
  exact ⟨rfl, HW1.out⟩
end Go.Proofs.Ytoaiblhlpdaeoaa
