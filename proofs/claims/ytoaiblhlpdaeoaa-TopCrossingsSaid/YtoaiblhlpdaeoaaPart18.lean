/- Several texts in one. -/
import Derived.Test.YtoaiblhlpdaeoaaPart17
import Derived.Test.YtoaiblhlpdaeoaaBase1
import Derived.Test.YtoaiblhlpdaeoaaPart2
import Derived.Test.YtoaiblhlpdaeoaaPart1
import Derived.Test.YtoaiblhlpdaeoaaPart3
import Derived.Test.YtoaiblhlpdaeoaaPart7
import Derived.Test.YtoaiblhlpdaeoaaBase2
import Derived.Test.YtoaiblhlpdaeoaaPart8
/- Package garside: Word; the contracts together. (Written by tools/gen_gword.py.) -/
namespace Go.Proofs.Ytoaiblhlpdaeoaa
set_option linter.unusedVariables false
set_option linter.unusedSimpArgs false
open Go.RowKit

theorem half_fault {n : Nat} (h1 : 2 ≤ n) (h6 : n ≤ 6) : bfault (n : Int) (halfW n) = 0 :=
  bfault_ok (by omega) (by omega) (by have := (half_len h1 h6).2.1; omega) fun x hx => by have := okB_half n x hx; omega
set_option maxRecDepth 100000 in
set_option maxHeartbeats 8000000 in
theorem gWord_any (m k : Int) (A : Option Addr) (l c : Nat) (xss : List (List Int)) (w : World) (ha : SLL w A l c xss) (hm : (Lit.int .i64 m).wf = true) (hkw : (Lit.int .i64 k).wf = true) :
    Calls Try.prog 19 #[.int .i64 m, .int .i64 k, .slice A l c] w (GivesLE w (wordE m k xss) (wordL m k xss)) := by
  have HCK := hide (gcheck_any m A l c xss w ha hm)
  have HA := hide ha
  have HWM := hide hm
  clear ha hm
  by_cases h0 : ffE m xss = 0
  case neg =>
    have HE : Hid (wordE m k xss = ffE m xss) := hide (by unfold wordE; rw [if_pos h0])
    have HV : Hid (wordL m k xss = []) := hide (by unfold wordL; rw [HE.out, if_neg h0])
    obtain ⟨f, hf⟩ : ∃ f, ffE m xss = f := ⟨_, rfl⟩
    have HF := hide hf
    rw [hf] at h0
    have hne : (f != 0) = true := by simpa using h0
    clear hf h0
    go_enter Try.func19, Try.ntmps19
    go_wp2_with fail
    refine HCK.out.mono ?_
    rintro e w1 ⟨rfl, hb⟩
    rw [HF.out]
    have HB := hide hb
    clear hb
    go_wp2_with fail
    go_ret2
    rw [HE.out, HV.out, HF.out]
    exact ⟨none, 0, 0, rfl, SL.nil_ _, HB.out⟩
  by_cases h30 : 30 < k.natAbs
  · have HE : Hid (wordE m k xss = 2) := hide (by unfold wordE; rw [if_neg (by simp [h0]), if_pos h30])
    have HV : Hid (wordL m k xss = []) := hide (by unfold wordL; rw [HE.out, if_neg (by decide)])
    have HF := hide h0
    have hkk : k < -30 ∨ 30 < k := by omega
    clear h0 h30
    rcases hkk with hk | hk
    · have hd1 : decide (k < -30) = true := decide_eq_true hk
      clear hk
      go_enter Try.func19, Try.ntmps19
      go_wp2_with fail
      refine HCK.out.mono ?_
      rintro e w1 ⟨rfl, hb⟩
      rw [HF.out]
      have HB := hide hb
      clear hb
      go_wp2_with fail
      go_ret2
      rw [HE.out, HV.out]
      exact ⟨none, 0, 0, rfl, SL.nil_ _, HB.out⟩
    · have hd1 : decide (k < -30) = false := decide_eq_false (by omega)
      have hd2 : decide ((30 : Int) < k) = true := decide_eq_true hk
      clear hk
      go_enter Try.func19, Try.ntmps19
      go_wp2_with fail
      refine HCK.out.mono ?_
      rintro e w1 ⟨rfl, hb⟩
      rw [HF.out]
      have HB := hide hb
      clear hb
      go_wp2_with fail
      go_ret2
      rw [HE.out, HV.out]
      exact ⟨none, 0, 0, rfl, SL.nil_ _, HB.out⟩
  obtain ⟨n, ps, rfl, h2, h6, rfl, hpl, hPL, _⟩ := ffE_ok h0
  have HE : Hid (wordE (n : Int) k (ps.map zs) = if 30 < (wriW n k ps).length then 2 else 0) := hide (by unfold wordE; rw [if_neg (by simp [h0]), if_neg h30, Int.toNat_natCast, nlL_zs])
  have HV : Hid (wordL (n : Int) k (ps.map zs) = if 30 < (wriW n k ps).length then [] else wriW n k ps) := hide (by
    unfold wordL
    rw [HE.out, Int.toNat_natCast, nlL_zs]
    split
    · rw [if_neg (by decide)]
    · rw [if_pos rfl])
  have HF := hide h0
  have HP := hide hPL
  have HL : Hid (ps.length = l) := hide (by have := HA.out.len; rwa [List.length_map] at this)
  have hl30 : l ≤ 30 := by rw [← HL.out]; exact hpl
  have hd1 : decide (k < -30) = false := decide_eq_false (by omega)
  have hd2 : decide ((30 : Int) < k) = false := decide_eq_false (by omega)
  obtain ⟨q1, q2, _⟩ := half_len h2 h6
  have HQ1 := hide q1
  have HQ2 := hide q2
  have HOK := hide (okB_half n)
  obtain ⟨i0, hi0, hz0, hz1, hz2⟩ := info_parts int_info
  have HI0 := hide hi0
  have HZ0 := hide hz0
  have HZ1 := hide hz1
  have HZ2 := hide hz2
  clear h0 hpl hPL q1 q2 hi0 hz0 hz1 hz2
  go_enter Try.func19, Try.ntmps19
  go_wp2_with fail
  refine HCK.out.mono ?_
  rintro e w0 ⟨rfl, hb⟩
  rw [HF.out]
  have HW := hide hb
  clear hb HCK
  go_wp2_with fail
  refine (ghalf_any n w0 (by omega)).mono ?_
  rintro e w1 ⟨F, fn, fc, rfl, ho, hb⟩
  have hfn : fn = n := by have := ho.len; rw [zs_length, (full_isP n).2] at this; exact this.symm
  subst hfn
  replace HW := hide (HW.out.trans (hb.mono HW.out.size))
  have HS := hide (gword_any F fn fc _ w1 ho.sl (full_isP fn).1 (full_isP fn).2 (by omega) h6)
  clear hb ho
  go_wp2_with fail
  refine HS.out.mono ?_
  rintro e w2 ⟨H, hn, hc, rfl, ho, hb⟩
  change OwnI w2 w1.heap.size H hn hc (halfW fn) at ho
  have hhn := ho.len
  replace HW := hide (HW.out.trans (hb.mono HW.out.size))
  have HH := hide ho.sl
  have HHN := hide hhn
  have hq1 := HQ1.out
  have hq2 := HQ2.out
  rw [hhn] at hq1 hq2
  clear hb ho hhn HS
  by_cases hneg : k < 0
  · obtain ⟨q, hq⟩ : ∃ q : Nat, k = -(q : Int) := ⟨k.natAbs, by omega⟩
    subst hq
    have hq30 : q ≤ 30 := by omega
    have hwq : IntKind.i64.wrap (- -(q : Int)) = (q : Int) := by rw [IntKind.wrap_i64]; omega
    have hmx : max (-(q : Int)) (- -(q : Int)) = (q : Int) := by omega
    have hmx2 : max (-(q : Int)) (q : Int) = (q : Int) := by omega
    have HPW : Hid (powW fn (-(q : Int)) = rep (invw (halfW fn)) q) := hide (by unfold powW; rw [if_pos hneg, show (-(q : Int)).natAbs = q by omega])
    have HBI := hide (binv_any (fn : Int) H hn hc _ w2 HH.out (wfI (by omega)))
    have hfz := half_fault h2 h6
    rw [hfz, show invB (fn : Int) (halfW fn) = invw (halfW fn) by unfold invB; rw [if_pos hfz]] at HBI
    clear hfz
    go_wp2_with fail
    refine HBI.out.mono ?_
    rintro e w3 ⟨D, dn, dc, rfl, hs, hb⟩
    have hdn : dn = hn := by have := hs.il.len; rw [invw_length, HHN.out] at this; exact this.symm
    subst hdn
    replace HW := hide (HW.out.trans (hb.mono HW.out.size))
    have HRP := hide (repeat_all D dn dc q _ w3 hs.il hq1 (by omega) (by have := Nat.mul_le_mul hq30 hq2; omega))
    rw [← HPW.out] at HRP
    clear hb hs HBI
    go_wp2_with ((with_reducible show wpList _ _ _ (Oper.mk _ (.call { callee := .builtin .max, args := _, argTypes := _ }) _ _ _ _ :: _) _ _); refine wpList_gives rfl (gives_maxI rfl rfl rfl (by first | exact hmx | exact hmx2)) ?_)
    refine HRP.out.mono ?_
    rintro e w4 ⟨R, rn, rc, rfl, ho, hb⟩
    have hrn : rn ≤ 450 := by
      have h1 := ho.len
      rw [HPW.out, rep_length] at h1
      have h3 := invw_length (halfW fn)
      rw [h3, HHN.out] at h1
      have := Nat.mul_le_mul hq30 hq2
      omega
    have HPL := hide ho.len
    have HO : Hid (OwnI w4 w.heap.size R rn rc (powW fn (-(q : Int)) ++ facW (ps.take 0))) := hide (by
      rw [List.take_zero, show facW [] = [] from rfl, List.append_nil]
      exact ho.mono HW.out.size)
    replace HW := hide (HW.out.trans (hb.mono HW.out.size))
    clear hb ho HRP HPW hwq HH HHN hq1 hq2 hmx hmx2 hneg
    go_wp2_with fail
    go_loopw [10, 44] (fun ov iv wr => ∃ (j : Nat) (D : Option Addr) (dn dc : Nat), j ≤ l ∧ iv = .int .i64 j ∧ ov = .slice D dn dc ∧ Hid (OwnI wr w.heap.size D dn dc (powW fn (-(q : Int)) ++ facW (ps.take j))) ∧ Hid (Below w.heap.size w wr)) (fun _ iv _ => l - (intOf iv).toNat)
    case atStart => exact ⟨0, R, rn, rc, Nat.zero_le _, rfl, rfl, HO, HW⟩
    case round =>
      clear HO HW
      obtain ⟨j, D, dn, dc, hj, rfl, rfl, HO, HB⟩ := hrel
      by_cases hjl : j < l
      · have hjp : j < ps.length := by rw [HL.out]; exact hjl
        obtain ⟨ad, B, bm, bd, rfl, hcl, hr⟩ := (HA.out.below HB.out).at_ hjl
        have hpm : ps.getD j [] ∈ ps := by rw [show ps.getD j [] = ps[j] by simp [List.getD, hjp]]; exact List.getElem_mem _
        obtain ⟨pp1, pp2⟩ := HP.out _ hpm
        rw [show (ps.map zs).getD j [] = zs (ps.getD j []) by simp [List.getD, hjp]] at hr
        have hbm : bm = fn := by have := hr.il.len; rw [zs_length, pp2] at this; exact this.symm
        subst hbm
        have HSP := hide (gword_any B bm bd _ wr hr pp1 pp2 (by omega) h6)
        have HFT := hide (facW_take hjp)
        have hdn : dn ≤ 2000 := by
          have h1 := HO.out.len
          rw [List.length_append, HPL.out] at h1
          have h3 := facW_len (n := bm) (l := ps.take j) (fun p hp => (HP.out p (List.mem_of_mem_take hp)).2) h6
          rw [List.length_take] at h3
          omega
        have hwl : (wrd (ps.getD j [])).length ≤ 36 := by
          have h1 := wrd_len (ps.getD j [])
          rw [pp2] at h1
          have := Nat.mul_le_mul h6 h6
          omega
        have HWL := hide hwl
        have HJL := hide hjl
        clear hjp hr hpm pp1 pp2 hwl
        generalize ps.getD j [] = p at *
        go_wp2_with fail
        refine HSP.out.mono ?_
        rintro e w5 ⟨S, sn, sc, rfl, ho, hb⟩
        have hsn : sn ≤ 36 := by have := ho.len; have := HWL.out; omega
        have HS5 := hide ho.il
        have hO5 := HO.out.below hb
        have HO5 := hide hO5
        have HB5 := hide (HB.out.trans (hb.mono HB.out.size))
        have hsz5 := HB5.out.size
        clear hb ho hO5 HSP hcl
        go_wp2_with (at_builtin; refine wpList_append_int _ rfl (.tmp 48) (.tmp 50) 22 rfl w.heap.size i0 Try.underlying22 HI0.out HZ0.out HZ1.out HZ2.out D dn dc _ rfl HO5.out S sn sc (wrd p) rfl HS5.out (by omega) hsz5 ?_; intro A9 c9 w9 happ)
        have ho := happ.own
        rw [List.append_assoc, ← HFT.out] at ho
        have HO9 := hide ho
        have hb9 : Below w.heap.size w w9 := HB5.out.grown happ.grown hsz5 (fun b hb => (HO5.out.lt b (by rw [ownBlock_len D dn (dn + sn) dc dc]; exact hb)).1)
        have HB9 := hide hb9
        clear ho hb9 happ
        have hjl := HJL.out
        go_wp2_with fail
        go_roundw
        case rel => exact ⟨j + 1, A9, dn + sn, c9, by omega, by go_num, rfl, HO9, HB9⟩
        case measure => simp [intOf]; omega
      · have hjl2 : j = l := by omega
        have HEW : Hid (OwnI wr w.heap.size D dn dc (wriW fn (-(q : Int)) ps)) := hide (by
          have h := HO.out
          rw [hjl2, List.take_of_length_le (by rw [HL.out]; exact Nat.le_refl _)] at h
          exact h)
        have HLN := hide HEW.out.len
        clear HO hjl2
        by_cases h31 : 30 < dn
        · have hdd : decide ((30 : Int) < (dn : Int)) = true := decide_eq_true (by omega)
          have HE2 := hide (HE.out.trans (if_pos (by rw [HLN.out]; exact h31)))
          have HV2 := hide (HV.out.trans (if_pos (by rw [HLN.out]; exact h31)))
          clear h31
          go_wp2_with fail
          go_ret2
          rw [HE2.out, HV2.out]
          exact ⟨none, 0, 0, rfl, SL.nil_ _, HB.out⟩
        · have hdd : decide ((30 : Int) < (dn : Int)) = false := decide_eq_false (by omega)
          have HE2 := hide (HE.out.trans (if_neg (by rw [HLN.out]; exact h31)))
          have HV2 := hide (HV.out.trans (if_neg (by rw [HLN.out]; exact h31)))
          clear h31
          go_wp2_with fail
          go_ret2
          rw [HE2.out, HV2.out]
          exact ⟨D, dn, dc, rfl, HEW.out.sl, HB.out⟩
  · obtain ⟨q, hq⟩ : ∃ q : Nat, k = (q : Int) := ⟨k.natAbs, by omega⟩
    subst hq
    have hq30 : q ≤ 30 := by omega
    have hwq : IntKind.i64.wrap (-(q : Int)) = -(q : Int) := by rw [IntKind.wrap_i64]; omega
    have hmx : max (q : Int) (-(q : Int)) = (q : Int) := by omega
    have hmx2 : True := trivial
    have HPW : Hid (powW fn (q : Int) = rep (halfW fn) q) := hide (by unfold powW; rw [if_neg hneg, Int.natAbs_natCast])
    have HRP := hide (repeat_all H hn hc q _ w2 HH.out.il hq1 (by omega) (by have := Nat.mul_le_mul hq30 hq2; omega))
    rw [← HPW.out] at HRP
    go_wp2_with ((with_reducible show wpList _ _ _ (Oper.mk _ (.call { callee := .builtin .max, args := _, argTypes := _ }) _ _ _ _ :: _) _ _); refine wpList_gives rfl (gives_maxI rfl rfl rfl (by first | exact hmx | exact hmx2)) ?_)
    refine HRP.out.mono ?_
    rintro e w4 ⟨R, rn, rc, rfl, ho, hb⟩
    have hrn : rn ≤ 450 := by
      have h1 := ho.len
      rw [HPW.out, rep_length] at h1
      rw [HHN.out] at h1
      have := Nat.mul_le_mul hq30 hq2
      omega
    have HPL := hide ho.len
    have HO : Hid (OwnI w4 w.heap.size R rn rc (powW fn (q : Int) ++ facW (ps.take 0))) := hide (by
      rw [List.take_zero, show facW [] = [] from rfl, List.append_nil]
      exact ho.mono HW.out.size)
    replace HW := hide (HW.out.trans (hb.mono HW.out.size))
    clear hb ho HRP HPW hwq HH HHN hq1 hq2 hmx hmx2 hneg
    go_wp2_with fail
    go_loopw [10, 44] (fun ov iv wr => ∃ (j : Nat) (D : Option Addr) (dn dc : Nat), j ≤ l ∧ iv = .int .i64 j ∧ ov = .slice D dn dc ∧ Hid (OwnI wr w.heap.size D dn dc (powW fn (q : Int) ++ facW (ps.take j))) ∧ Hid (Below w.heap.size w wr)) (fun _ iv _ => l - (intOf iv).toNat)
    case atStart => exact ⟨0, R, rn, rc, Nat.zero_le _, rfl, rfl, HO, HW⟩
    case round =>
      clear HO HW
      obtain ⟨j, D, dn, dc, hj, rfl, rfl, HO, HB⟩ := hrel
      by_cases hjl : j < l
      · have hjp : j < ps.length := by rw [HL.out]; exact hjl
        obtain ⟨ad, B, bm, bd, rfl, hcl, hr⟩ := (HA.out.below HB.out).at_ hjl
        have hpm : ps.getD j [] ∈ ps := by rw [show ps.getD j [] = ps[j] by simp [List.getD, hjp]]; exact List.getElem_mem _
        obtain ⟨pp1, pp2⟩ := HP.out _ hpm
        rw [show (ps.map zs).getD j [] = zs (ps.getD j []) by simp [List.getD, hjp]] at hr
        have hbm : bm = fn := by have := hr.il.len; rw [zs_length, pp2] at this; exact this.symm
        subst hbm
        have HSP := hide (gword_any B bm bd _ wr hr pp1 pp2 (by omega) h6)
        have HFT := hide (facW_take hjp)
        have hdn : dn ≤ 2000 := by
          have h1 := HO.out.len
          rw [List.length_append, HPL.out] at h1
          have h3 := facW_len (n := bm) (l := ps.take j) (fun p hp => (HP.out p (List.mem_of_mem_take hp)).2) h6
          rw [List.length_take] at h3
          omega
        have hwl : (wrd (ps.getD j [])).length ≤ 36 := by
          have h1 := wrd_len (ps.getD j [])
          rw [pp2] at h1
          have := Nat.mul_le_mul h6 h6
          omega
        have HWL := hide hwl
        have HJL := hide hjl
        clear hjp hr hpm pp1 pp2 hwl
        generalize ps.getD j [] = p at *
        go_wp2_with fail
        refine HSP.out.mono ?_
        rintro e w5 ⟨S, sn, sc, rfl, ho, hb⟩
        have hsn : sn ≤ 36 := by have := ho.len; have := HWL.out; omega
        have HS5 := hide ho.il
        have hO5 := HO.out.below hb
        have HO5 := hide hO5
        have HB5 := hide (HB.out.trans (hb.mono HB.out.size))
        have hsz5 := HB5.out.size
        clear hb ho hO5 HSP hcl
        go_wp2_with (at_builtin; refine wpList_append_int _ rfl (.tmp 48) (.tmp 50) 22 rfl w.heap.size i0 Try.underlying22 HI0.out HZ0.out HZ1.out HZ2.out D dn dc _ rfl HO5.out S sn sc (wrd p) rfl HS5.out (by omega) hsz5 ?_; intro A9 c9 w9 happ)
        have ho := happ.own
        rw [List.append_assoc, ← HFT.out] at ho
        have HO9 := hide ho
        have hb9 : Below w.heap.size w w9 := HB5.out.grown happ.grown hsz5 (fun b hb => (HO5.out.lt b (by rw [ownBlock_len D dn (dn + sn) dc dc]; exact hb)).1)
        have HB9 := hide hb9
        clear ho hb9 happ
        have hjl := HJL.out
        go_wp2_with fail
        go_roundw
        case rel => exact ⟨j + 1, A9, dn + sn, c9, by omega, by go_num, rfl, HO9, HB9⟩
        case measure => simp [intOf]; omega
      · have hjl2 : j = l := by omega
        have HEW : Hid (OwnI wr w.heap.size D dn dc (wriW fn (q : Int) ps)) := hide (by
          have h := HO.out
          rw [hjl2, List.take_of_length_le (by rw [HL.out]; exact Nat.le_refl _)] at h
          exact h)
        have HLN := hide HEW.out.len
        clear HO hjl2
        by_cases h31 : 30 < dn
        · have hdd : decide ((30 : Int) < (dn : Int)) = true := decide_eq_true (by omega)
          have HE2 := hide (HE.out.trans (if_pos (by rw [HLN.out]; exact h31)))
          have HV2 := hide (HV.out.trans (if_pos (by rw [HLN.out]; exact h31)))
          clear h31
          go_wp2_with fail
          go_ret2
          rw [HE2.out, HV2.out]
          exact ⟨none, 0, 0, rfl, SL.nil_ _, HB.out⟩
        · have hdd : decide ((30 : Int) < (dn : Int)) = false := decide_eq_false (by omega)
          have HE2 := hide (HE.out.trans (if_neg (by rw [HLN.out]; exact h31)))
          have HV2 := hide (HV.out.trans (if_neg (by rw [HLN.out]; exact h31)))
          clear h31
          go_wp2_with fail
          go_ret2
          rw [HE2.out, HV2.out]
          exact ⟨D, dn, dc, rfl, HEW.out.sl, HB.out⟩

theorem garC : GarC where
  normal := gnormal_any
  check := gcheck_any
  word := gWord_any
  equal := gequal_any
end Go.Proofs.Ytoaiblhlpdaeoaa
/- timbref1.Image. (Written by tools/gen_image.py.) -/
namespace Go.Proofs.Ytoaiblhlpdaeoaa
set_option linter.unusedVariables false
set_option linter.unusedSimpArgs false
open Go.RowKit

def bz (B : Nat) (u : List Int) : Prop := ∀ z ∈ u, z ≠ 0 ∧ z.natAbs ≤ B
theorem bz.nz {B : Nat} {u : List Int} (h : bz B u) : Proofs.Ytoaiblhlpdaeoaa.nz u := fun z hz => (h z hz).1
theorem bz.inv {B : Nat} {u : List Int} (h : bz B u) : bz B (invw u) := fun z hz => by
  have : ∃ x ∈ u, -x = z := by simpa [invw] using hz
  obtain ⟨x, hx, rfl⟩ := this
  have := h x hx
  omega
end Go.Proofs.Ytoaiblhlpdaeoaa
/- timbmake.Strands; timbkeep1.sides. -/
namespace Go.Proofs.Ytoaiblhlpdaeoaa
set_option linter.unusedVariables false
set_option linter.unusedSimpArgs false
open Go.RowKit

/-- Two words that are equal by a relation. -/
structure Side (N : Nat) (xs ys : List Int) : Prop where
  b : RelB xs ys
  e : RelE xs ys
  x : LP.expo xs = LP.expo ys
  ok1 : okB N xs
  ok2 : okB N ys
  l1 : xs.length ≤ 3
  l2 : ys.length ≤ 3
  a : RelA xs ys
end Go.Proofs.Ytoaiblhlpdaeoaa
/- GarsideSame. -/
namespace Go.Proofs.Ytoaiblhlpdaeoaa
set_option linter.unusedVariables false
set_option linter.unusedSimpArgs false
open Go.RowKit Gar

theorem word_okB {T : Nat} {us : List Int} (h : ∀ x ∈ us, x ≠ 0 ∧ x ≤ (T : Int) ∧ -(T : Int) ≤ x) : okB (T + 1) us := fun x hx => by have := h x hx; omega
theorem bf_ok {n : Nat} (h1 : 1 ≤ n) (h6 : n ≤ 6) {w : List Int} (hw : okB n w) (hl : w.length ≤ 30) : bfault (n : Int) w = 0 := bfault_ok (by omega) (by omega) hl fun x hx => by have := hw x hx; omega
theorem eq2_ok {n : Nat} {a b : List Int} (h1 : bfault (n : Int) a = 0) (h2 : bfault (n : Int) b = 0) : eq2E (n : Int) a b = 0 := by unfold eq2E; rw [if_neg (by rw [h1]; simp), h2]
open Classical in
theorem geq_yes {n : Nat} {a b : List Int} (h1 : bfault (n : Int) a = 0) (h2 : bfault (n : Int) b = 0) (e : gp n a = gp n b) : geqB (n : Int) a b = true := by
  unfold geqB
  rw [Int.toNat_natCast, decide_eq_true (eq2_ok h1 h2), decide_eq_true e]
  rfl
end Go.Proofs.Ytoaiblhlpdaeoaa
/- timbtop.equal: a fact about the word problem. -/
namespace Go.Proofs.Ytoaiblhlpdaeoaa
set_option linter.unusedVariables false
set_option linter.unusedSimpArgs false
open Go.RowKit Gar

theorem gp_121 : gp 3 [1, 2, 1] = gp 3 [2, 1, 2] := gp_nb (n := 3) (i := 0) (j := 1) (.inl rfl) (by omega) (by omega)
theorem art_12 : eqA 3 [1, 2] [2, 1] = false ∧ eqE 3 [1, 2] [2, 1] = 0 := by decide +kernel

set_option maxRecDepth 100000 in
set_option maxHeartbeats 2000000 in
theorem equal_top (F : GarC) (G : ArtinC) (w : World) : Calls Try.prog 35 #[] w fun e w' => e = .returned (.bool true) ∧ Below w.heap.size w w' := by
  have HF := hide F
  have HG := hide G
  clear F G
  have hnf := Bool.not_false
  go_enter Try.func35, Try.ntmps35
  have L1 := SL.lit w [1, 2, 1] (by decide) (cs := #[.int .i64 1, .int .i64 2, .int .i64 1]) rfl (m := 3) rfl
  have hal : Below w.heap.size w (w.alloc (.cells #[.int .i64 1, .int .i64 2, .int .i64 1] 3)) := (Below.refl _ _).alloc (Nat.le_refl _) _
  have L2 := SL.lit (w.alloc (.cells #[.int .i64 1, .int .i64 2, .int .i64 1] 3)) [2, 1, 2] (by decide) (cs := #[.int .i64 2, .int .i64 1, .int .i64 2]) rfl (m := 3) rfl
  have hal2 : Below (w.alloc (.cells #[.int .i64 1, .int .i64 2, .int .i64 1] 3)).heap.size (w.alloc (.cells #[.int .i64 1, .int .i64 2, .int .i64 1] 3)) ((w.alloc (.cells #[.int .i64 1, .int .i64 2, .int .i64 1] 3)).alloc (.cells #[.int .i64 2, .int .i64 1, .int .i64 2] 3)) := (Below.refl _ _).alloc (Nat.le_refl _) _
  have M1 := hide (L1.below hal2)
  rw [World.size_alloc] at L2
  have M2 := hide L2
  have HW := hide (hal.trans (hal2.mono hal.size))
  clear L1 L2 hal hal2
  go_wp2_with fail
  refine (HF.out.equal 3 _ 3 3 _ _ 3 3 _ _ M1.out M2.out (by decide)).mono ?_
  rintro e w1 ⟨rfl, hb⟩
  rw [show geqB 3 [1, 2, 1] [2, 1, 2] = true from geq_yes (n := 3) (by decide) (by decide) gp_121, show eq2E 3 [1, 2, 1] [2, 1, 2] = 0 from by decide]
  replace HW := hide (HW.out.trans (hb.mono HW.out.size))
  clear hb M1 M2
  have L1 := SL.lit w1 [1, 2] (by decide) (cs := #[.int .i64 1, .int .i64 2]) rfl (m := 2) rfl
  have hal : Below w1.heap.size w1 (w1.alloc (.cells #[.int .i64 1, .int .i64 2] 3)) := (Below.refl _ _).alloc (Nat.le_refl _) _
  have L2 := SL.lit (w1.alloc (.cells #[.int .i64 1, .int .i64 2] 3)) [2, 1] (by decide) (cs := #[.int .i64 2, .int .i64 1]) rfl (m := 2) rfl
  have hal2 : Below (w1.alloc (.cells #[.int .i64 1, .int .i64 2] 3)).heap.size (w1.alloc (.cells #[.int .i64 1, .int .i64 2] 3)) ((w1.alloc (.cells #[.int .i64 1, .int .i64 2] 3)).alloc (.cells #[.int .i64 2, .int .i64 1] 3)) := (Below.refl _ _).alloc (Nat.le_refl _) _
  have M1 := hide (L1.below hal2)
  rw [World.size_alloc] at L2
  have M2 := hide L2
  have HW1 := hide (HW.out.trans ((hal.trans (hal2.mono hal.size)).mono HW.out.size))
  clear L1 L2 hal hal2
  go_wp2_with fail
  refine (HG.out.equal 3 _ 2 2 _ _ 2 2 _ _ M1.out M2.out (by decide)).mono ?_
  rintro e w2 ⟨rfl, hb⟩
  rw [art_12.1, art_12.2]
  replace HW1 := hide (HW1.out.trans (hb.mono HW1.out.size))
  clear hb M1 M2
  go_wp2_with fail
  go_ret
  exact ⟨rfl, HW1.out⟩
end Go.Proofs.Ytoaiblhlpdaeoaa
/- cycleFrom. -/
namespace Go.Proofs.Ytoaiblhlpdaeoaa
set_option linter.unusedVariables false
set_option linter.unusedSimpArgs false
open Go.RowKit

/-- The first j elements of the cycle of s. -/
def cycTo (a : List Nat) (s j : Nat) : List Nat := (List.range j).map fun t => it a t s
theorem cycTo_succ (a : List Nat) (s j : Nat) : zs (cycTo a s (j + 1)) = zs (cycTo a s j) ++ [((it a j s : Nat) : Int)] := by
  unfold cycTo zs
  rw [List.range_succ]
  simp
theorem cycTo_one (a : List Nat) (s : Nat) : zs (cycTo a s 1) = [(s : Int)] := rfl

theorem cycle_step {w wr w9 : World} {ad : Addr} {n j c5 c9 x y : Nat} {A5 A9 : Option Addr} {a : List Nat} {ys zz : List Int} (ha : IL w (some ad) n (zs a)) (hx : x < n) (hy : a.getD x 0 = y) (hnx : Below w.heap.size w wr)
    (hown : OwnI wr w.heap.size A5 j c5 ys) {o : Obj} (happ : Appended (wr.alloc o) w.heap.size A5 (j + 1) c5 zz A9 c9 w9) :
    w9.cell? (ad.add x) = some (.int .i64 y) ∧ Below w.heap.size w w9 := by
  have hb : Below w.heap.size w w9 := (hnx.alloc hnx.size o).grown happ.grown (Nat.le_trans hnx.size (by simp)) (fun g hg => (hown.lt g (by rw [ownBlock_len A5 j (j + 1) c5 c5]; exact hg)).1)
  obtain ⟨ad', e, hc⟩ := (ha.below hb).at_ hx
  injection e with e
  subst e
  rw [hc, zs_getD, hy]
  exact ⟨rfl, hb⟩

set_option maxRecDepth 100000 in
set_option maxHeartbeats 1000000 in
theorem cycleFrom_any (A : Option Addr) (n c s : Nat) (a : List Nat) (w : World) (ha : IL w A n (zs a)) (pa : isP a) (hs : s < n) :
    Calls Try.prog 121 #[.slice A n c, .int .i64 s] w (GivesOwn w (zs (cyc a s))) := by
  obtain ⟨i0, hi0, hz0, hz1, hz2⟩ := info_parts int_info
  have hna := ha.small
  have HL : Hid (a.length = n) := by have := ha.len; rwa [zs_length] at this
  have HP := hide pa
  have hp := per_spec pa (s := s) (by rw [HL.out]; exact hs)
  have hp1 := hp.1
  have hp2 : perOf a s ≤ n := by rw [← HL.out]; exact hp.2.1
  have HQ := hide hp.2.2
  clear hp pa
  have HC : Hid (cycTo a s (perOf a s) = cyc a s) := rfl
  generalize perOf a s = p at *
  obtain ⟨ad, hA, hcs⟩ := ha.at_ hs
  subst hA
  rw [zs_getD] at hcs
  have H1 : Hid (((a.getD s 0 : Nat) : Int) = ((it a 1 s : Nat) : Int)) := rfl
  rw [H1.out] at hcs
  go_enter Try.func121, Try.ntmps121
  have hca := ha.alloc (.cells #[.int .i64 s] 3)
  have hl0 : OwnI (w.alloc (.cells #[.int .i64 s] 3)) w.heap.size (some ⟨w.heap.size, 0, none⟩) 1 1 (zs (cycTo a s 1)) := by
    rw [cycTo_one]
    exact OwnI.lit w [(s : Int)] (Nat.le_refl _) (by simp) rfl rfl rfl
  have hcs' : (w.alloc (.cells #[.int .i64 s] 3)).cell? (ad.add s) = some (.int .i64 ((it a 1 s : Nat) : Int)) := by
    obtain ⟨ad', e, hc⟩ := hca.at_ hs
    injection e with e
    subst e
    rw [hc, zs_getD]
    rfl
  clear hcs hca
  go_wp2
  go_loopw [5, 6] (fun cv x wr => ∃ (j c5 : Nat) (A5 : Option Addr), 1 ≤ j ∧ j ≤ p ∧ cv = .slice A5 j c5 ∧ x = .int .i64 ((it a j s : Nat) : Int) ∧ OwnI wr w.heap.size A5 j c5 (zs (cycTo a s j)) ∧ Below w.heap.size w wr)
    (fun cv x _ => match cv with | .slice _ j _ => p - j | _ => 0)
  case atStart => exact ⟨1, 1, _, Nat.le_refl _, hp1, rfl, rfl, hl0, (Below.refl _ _).alloc (Nat.le_refl _) _⟩
  case round =>
    obtain ⟨j, c5, A5, hj1, hjp, rfl, rfl, hown, hnx⟩ := hrel
    clear hl0 hcs'
    by_cases hlt : j < p
    · have hne : ((it a j s : Nat) : Int) ≠ (s : Int) := fun e => HQ.out.2 j hj1 hlt (by omega)
      have hbne : (((it a j s : Nat) : Int) != (s : Int)) = true := by simpa using hne
      have hxl : it a j s < n := by have := it_lt HP.out (s := s) (by rw [HL.out]; exact hs) j; rw [HL.out] at this; exact this
      have HA := hide ha
      have hyx : a.getD (it a j s) 0 = it a (j + 1) s := rfl
      have HY := hide hyx
      have HS := hide (cycTo_succ a s j)
      clear hne hyx ha
      generalize hye : it a (j + 1) s = y at *
      have HYE := hide hye
      clear hye
      generalize it a j s = x at *
      have hsz := hnx.size
      go_wp2_with (at_builtin; refine wpList_append_int _ rfl (.tmp 20) (.tmp 22) 22 rfl w.heap.size i0 Try.underlying22 hi0 hz0 hz1 hz2 A5 j c5 (zs (cycTo a s j)) rfl (hown.alloc _) (some ⟨wr.heap.size, 0, none⟩) 1 1 [(x : Int)] rfl (IL.lit wr [(x : Int)] (by simp) rfl rfl) (by omega) (Nat.le_trans hsz (by simp)) ?_; intro A9 c9 w9 happ; have hcx := (cycle_step HA.out hxl HY.out hnx hown happ).1)
      have hb9 := (cycle_step HA.out hxl HY.out hnx hown happ).2
      have hown9 := happ.own
      rw [← HS.out] at hown9
      clear happ hown hcx
      go_roundw
      case rel => exact ⟨j + 1, c9, A9, by omega, by omega, rfl, by rw [HYE.out], hown9, hb9⟩
      case measure => simp; omega
    · have hjp' : j = p := by omega
      have hbne : (((it a j s : Nat) : Int) != (s : Int)) = false := by rw [hjp', HQ.out.1]; simp
      have HE : Hid (cycTo a s j = cyc a s) := by rw [hjp']; exact HC.out
      clear hjp'
      generalize it a j s = x at *
      go_wp2
      go_ret
      rw [HE.out] at hown
      exact ⟨_, _, _, rfl, hown, hnx⟩
end Go.Proofs.Ytoaiblhlpdaeoaa
/- Cycles. -/
namespace Go.Proofs.Ytoaiblhlpdaeoaa
set_option linter.unusedVariables false
set_option linter.unusedSimpArgs false
open Go.RowKit

theorem slice_info : (Try.prog.info? 22).map (fun i => (i.zero, i.size, i.bytes)) = some (some (.slice none 0 0), 1, 24) := by kernel_rfl

/-- A slice of slices in new memory, and no error. -/
def GivesRows0 (w : World) (xss : List (List Int)) (e : Ending) (w' : World) : Prop :=
  ∃ A n c vs, e = .returned (.tuple #[.slice A n c, .int .i64 0]) ∧ OwnV w' w.heap.size A n c vs ∧ RowsI w' w.heap.size vs xss ∧ Below w.heap.size w w'

/-- What the loop over the elements knows. -/
structure CycSt (a : List Nat) (k : Nat) (w wr : World) (g6 : Nat) (A5 : Option Addr) (m c5 : Nat) (vs : List Value) (M : List Int) : Prop where
  own : OwnV wr w.heap.size A5 m c5 vs
  rows : RowsI wr w.heap.size vs ((cycsTo a k).map zs)
  seen : Blk wr g6 104 (seenA M)
  seenTo : SeenTo a k M
  below : Below w.heap.size w wr
  small : m ≤ k

/-- What the inner loop knows. -/
structure MarkSt (a : List Nat) (k : Nat) (w wr : World) (g6 : Nat) (A5 : Option Addr) (m c5 : Nat) (vs : List Value) (M : List Int) (A8 : Option Addr) (n8 c8 j : Nat) : Prop where
  own : OwnV wr w.heap.size A5 m c5 vs
  rows : RowsI wr w.heap.size vs ((cycsTo a k).map zs)
  seen : Blk wr g6 104 (seenA (M ++ zs ((cyc a k).take j)))
  below : Below w.heap.size w wr
  cyc : OwnI wr w.heap.size A8 n8 c8 (zs (cyc a k))

theorem cyc_start {a : List Nat} {k : Nat} {w wr w2 : World} {g6 : Nat} {A5 A8 : Option Addr} {m c5 n8 c8 : Nat} {vs : List Value} {M : List Int} (h : CycSt a k w wr g6 A5 m c5 vs M)
    (hown : OwnI w2 wr.heap.size A8 n8 c8 (zs (Go.Proofs.Ytoaiblhlpdaeoaa.cyc a k))) (hb : Below wr.heap.size wr w2) : MarkSt a k w w2 g6 A5 m c5 vs M A8 n8 c8 0 :=
  ⟨h.own.keep (KeepT.below hb), h.rows.keep (KeepT.below hb), by simpa [zs] using h.seen.below hb h.seen.lt, h.below.trans (hb.mono h.below.size), hown.mono h.below.size⟩

theorem mark_step {a : List Nat} {k : Nat} {w wr : World} {g6 : Nat} {A5 A8 : Option Addr} {m c5 n8 c8 j x : Nat} {vs : List Value} {M : List Int} (h : MarkSt a k w wr g6 A5 m c5 vs M A8 n8 c8 j)
    (hj : j < n8) (hx : (Go.Proofs.Ytoaiblhlpdaeoaa.cyc a k).getD j 0 = x) (hg : w.heap.size ≤ g6) : MarkSt a k w (wr.setCell ⟨g6, x, none⟩ (.bool true)) g6 A5 m c5 vs M A8 n8 c8 (j + 1) := by
  have hl := h.cyc.len
  rw [zs_length] at hl
  refine ⟨h.own.keep (KeepT.set_ h.seen (by decide) _ _), h.rows.keep (KeepT.set_ h.seen (by decide) _ _), ?_, h.below.setCell hg _, (KeepT.set_ h.seen (by decide) _ _).ownI h.cyc⟩
  have e : M ++ zs ((Go.Proofs.Ytoaiblhlpdaeoaa.cyc a k).take (j + 1)) = M ++ zs ((Go.Proofs.Ytoaiblhlpdaeoaa.cyc a k).take j) ++ [(x : Int)] := by
    rw [List.take_succ_eq_append_getElem (by omega), ← getD_eq (by omega), hx, List.append_assoc]
    simp [zs]
  rw [e, ← seenA_set]
  exact h.seen.set_ _ _

theorem mark_end {a : List Nat} {k : Nat} {w wr : World} {g6 : Nat} {A5 A8 : Option Addr} {m c5 n8 c8 : Nat} {vs : List Value} {M : List Int} (h : MarkSt a k w wr g6 A5 m c5 vs M A8 n8 c8 n8)
    (hM : SeenTo a k M) (hm : m ≤ k) (hp : ¬ 1 < n8) : CycSt a (k + 1) w wr g6 A5 m c5 vs (M ++ zs (Go.Proofs.Ytoaiblhlpdaeoaa.cyc a k)) := by
  have hl := h.cyc.len
  rw [zs_length] at hl
  have hs := h.seen
  rw [List.take_of_length_le (by omega)] at hs
  have e : cycsTo a (k + 1) = cycsTo a k := by
    rw [cyc_length] at hl
    rw [cycsTo_succ, if_neg (by simp; omega), List.append_nil]
  exact ⟨h.own, by rw [e]; exact h.rows, hs, seen_add hM, h.below, by omega⟩

theorem mark_add {a : List Nat} {k : Nat} {w wr w9 : World} {g6 : Nat} {A5 A8 A9 : Option Addr} {m c5 n8 c8 c9 : Nat} {vs : List Value} {M : List Int} (h : MarkSt a k w wr g6 A5 m c5 vs M A8 n8 c8 n8)
    (hM : SeenTo a k M) (hm : m ≤ k) (hp : 1 < n8) (hmin : isMin a k = true) (happ : AppendedV (wr.alloc (.cells #[.slice A8 n8 c8] 22)) w.heap.size A5 (m + 1) c5 (vs ++ [.slice A8 n8 c8]) A9 c9 w9) (hg6 : g6 < wr.heap.size) :
    CycSt a (k + 1) w w9 g6 A9 (m + 1) c9 (vs ++ [.slice A8 n8 c8]) (M ++ zs (Go.Proofs.Ytoaiblhlpdaeoaa.cyc a k)) := by
  have hl := h.cyc.len
  rw [zs_length] at hl
  have hs := h.seen
  rw [List.take_of_length_le (by omega)] at hs
  have hblk : ∀ g, (Value.slice A5 (m + 1) c5).ownBlock = some g → w.heap.size ≤ g ∧ g < wr.heap.size ∧ ∃ (cs : Array Value), wr.heap[g]? = some (.cells cs 22 (0, 0)) := by
    intro g hg
    rw [ownBlock_len A5 (m + 1) m c5 c5] at hg
    obtain ⟨h1, h2⟩ := h.own.lt g hg
    refine ⟨h1, h2, ?_⟩
    rcases h.own.own.2 with ⟨hv, _⟩ | ⟨g', cap, cur, hv, _, hh, _⟩
    · rw [hv] at hg; cases hg
    · rw [hv] at hg
      injection hg with hg
      subst hg
      exact ⟨cur, hh⟩
  have k3 : KeepT 3 wr w9 := (KeepT.alloc wr _).trans (KeepT.grown happ.grown (fun g hg => by
    obtain ⟨_, h2, cs, h3⟩ := hblk g hg
    exact ⟨22, cs, (Below.heap_alloc wr _ g h2).trans h3, by decide⟩))
  have e : cycsTo a (k + 1) = cycsTo a k ++ [Go.Proofs.Ytoaiblhlpdaeoaa.cyc a k] := by
    rw [cyc_length] at hl
    rw [cycsTo_succ, if_pos (by simp [hmin]; omega)]
  refine ⟨happ.own, ?_, ?_, seen_add hM, ?_, by omega⟩
  · rw [e, List.map_append]
    exact (h.rows.keep k3).snoc (k3.ownI h.cyc)
  · refine ((hs.alloc _).grown happ.grown ?_)
    intro he
    obtain ⟨_, _, cs, h3⟩ := hblk g6 he.symm
    unfold Blk at hs
    rw [h3] at hs
    injection hs with hs
    injection hs with _ hs
    exact absurd hs (by decide)
  · exact (h.below.alloc h.below.size _).grown happ.grown (Nat.le_trans h.below.size (by simp)) (fun g hg => (hblk g hg).1)

theorem cyc_skip {a : List Nat} (pa : isP a) {k : Nat} {w wr : World} {g6 : Nat} {A5 : Option Addr} {m c5 : Nat} {vs : List Value} {M : List Int} (h : CycSt a k w wr g6 A5 m c5 vs M) (hk : k < a.length) (hs : (k : Int) ∈ M) :
    CycSt a (k + 1) w wr g6 A5 m c5 vs M := by
  have hm := (seen_min pa hk h.seenTo).1 hs
  have e : cycsTo a (k + 1) = cycsTo a k := by
    rw [cycsTo_succ, if_neg (by simp [hm]), List.append_nil]
  exact ⟨h.own, by rw [e]; exact h.rows, h.seen, seen_skip pa hk h.seenTo hs, h.below, by have := h.small; omega⟩

set_option maxRecDepth 100000 in
set_option maxHeartbeats 2000000 in
theorem cycles_ok (A : Option Addr) (n c : Nat) (a : List Nat) (w : World) (ha : IL w A n (zs a)) (pa : isP a) (h9 : a.length ≤ 9) :
    Calls Try.prog 89 #[.slice A n c] w (GivesRows0 w ((cycs a).map zs)) := by
  obtain ⟨i0, hi0, hz0, hz1, hz2⟩ := info_parts slice_info
  have HA := hide (pa.pf h9)
  have HL : Hid (a.length = n) := by have := ha.len; rwa [zs_length] at this
  have hn9 : n ≤ 9 := by have := HL.out; omega
  have HP := hide pa
  clear pa h9
  go_enter Try.func89, Try.ntmps89
  go_wp2_with fail
  refine (check_any _ _ _ _ _ ha).mono ?_
  rw [HA.out]
  rintro e w1 ⟨rfl, hb1⟩
  have hsz1 := hb1.size
  go_wp2
  go_loopw [5, 18] (fun cv i wr => ∃ (k m c5 : Nat) (A5 : Option Addr) (vs : List Value) (M : List Int), i = .int .i64 k ∧ cv = .slice A5 m c5 ∧ k ≤ n ∧ CycSt a k w wr w1.heap.size A5 m c5 vs M) (fun _ i _ => n - (intOf i).toNat)
  case atStart => exact ⟨0, 0, 0, none, [], [], rfl, rfl, Nat.zero_le _, OwnV.nil_ _ _, RowsI.nil_ _ _, Blk.new _ _ _, (fun x => by simp), hb1.alloc hsz1 _, Nat.le_refl _⟩
  case round =>
    obtain ⟨k, m, c5, A5, vs, M, rfl, rfl, hk, hst⟩ := hrel
    have ha' := ha.below hst.below
    by_cases hlt : k < n
    · have hkl : k < a.length := by have := HL.out; omega
      have hcell := (hst.seen.cell k).trans (seenA_get M k (by omega))
      by_cases hs : (k : Int) ∈ M
      · have HS := hide (cyc_skip HP.out hst hkl hs)
        rw [decide_eq_true hs] at hcell
        clear hs hst ha' ha
        go_wp2
        go_roundw
        case rel => exact ⟨k + 1, m, c5, A5, vs, M, by go_num, rfl, by omega, HS.out⟩
        case measure => simp [intOf]; omega
      · have HM := hide hs
        rw [decide_eq_false hs] at hcell
        clear hs
        have HST := hide hst
        clear hst
        have HA' := hide ha
        clear ha
        go_wp2_with fail
        refine (cycleFrom_any _ _ _ _ _ _ ha' HP.out hlt).mono ?_
        rintro e w2 ⟨A8, n8, c8, rfl, hown8, hb2⟩
        have hn8 : n8 ≤ 9 := by
          have h1 := hown8.len
          rw [zs_length, cyc_length] at h1
          have h2 := (per_spec HP.out hkl).2.1
          have h3 := HL.out
          omega
        have hms := cyc_start HST.out hown8 hb2
        have hsmall := HST.out.small
        clear hown8 hb2 hcell ha'
        go_wp2
        go_loopw [29] (fun jv wr => ∃ j : Nat, jv = .int .i64 j ∧ j ≤ n8 ∧ MarkSt a k w wr w1.heap.size A5 m c5 vs M A8 n8 c8 j) (fun jv _ => n8 - (intOf jv).toNat)
        case atStart => exact ⟨0, rfl, Nat.zero_le _, hms⟩
        case round =>
          obtain ⟨j, rfl, hj, hmj⟩ := hrel
          clear hms
          have hil := hmj.cyc.il
          by_cases hjlt : j < n8
          · obtain ⟨ad8, rfl, hcx⟩ := hil.at_ hjlt
            rw [zs_getD] at hcx
            have hxl : (cyc a k).getD j 0 < 9 := by
              have h1 := hmj.cyc.len
              rw [zs_length] at h1
              have h2 := cyc_lt HP.out hkl (getD_mem (show j < (cyc a k).length by omega))
              have h3 := HL.out
              omega
            have hcs := (hmj.seen.cell ((cyc a k).getD j 0)).trans (seenA_get _ _ hxl)
            have hfs := hmj.seen.frozen ((cyc a k).getD j 0)
            have HN := hide (fun x hx => mark_step (x := x) hmj hjlt hx hsz1)
            clear hil hmj
            generalize hxe : (cyc a k).getD j 0 = x at *
            have HX := hide hxe
            clear hxe
            generalize decide ((x : Int) ∈ M ++ zs ((cyc a k).take j)) = b0 at *
            go_wp2
            go_roundw
            case rel => exact ⟨j + 1, by go_num, by omega, HN.out x rfl⟩
            case measure => simp [intOf]; omega
          · have hjn : j = n8 := by omega
            subst hjn
            have hg6 : w1.heap.size < wr.heap.size := hmj.seen.lt
            by_cases h1 : 1 < j
            · have HN := hide (fun A9 c9 w9 happ => mark_add (A9 := A9) (c9 := c9) (w9 := w9) hmj HST.out.seenTo HST.out.small h1 (by
                have := seen_min HP.out hkl HST.out.seenTo
                cases hm : isMin a k
                · exact absurd (this.2 hm) HM.out
                · rfl) happ hg6)
              have hszr := hmj.below.size
              have hown := hmj.own
              have HMJ := hide hmj
              clear hmj hil
              go_wp2_with (at_builtin; refine wpList_append_val _ rfl (.tmp 39) (.tmp 41) 26 rfl w.heap.size i0 Try.underlying26 hi0 hz0 hz1 hz2 A5 m c5 vs rfl (hown.alloc _) ⟨_, 0, none⟩ 1 (.slice A8 j c8) rfl (by simp [World.cell?_alloc_new]) rfl (by omega) (Nat.le_trans hszr (by simp)) ?_; intro A9 c9 w9 happ)
              have hst9 := HN.out A9 c9 w9 happ
              clear happ hown
              go_roundw
              case rel => exact ⟨k + 1, m + 1, c9, A9, _, _, by go_num, rfl, by omega, hst9⟩
              case measure => simp [intOf]; omega
            · have HN := hide (mark_end hmj HST.out.seenTo HST.out.small h1)
              clear hmj hil
              go_wp2
              go_roundw
              case rel => exact ⟨k + 1, m, c5, A5, vs, _, by go_num, rfl, by omega, HN.out⟩
              case measure => simp [intOf]; omega
    · have hkn : k = n := by omega
      have HE : Hid (cycsTo a k = cycs a) := by
        unfold cycs
        rw [hkn, HL.out]
        exact rfl
      go_wp2
      go_ret2
      refine ⟨_, _, _, vs, rfl, hst.own, ?_, hst.below⟩
      have := hst.rows
      rw [HE.out] at this
      exact this
end Go.Proofs.Ytoaiblhlpdaeoaa
/- perm.Sign (out of XOrder, beside XIll). -/
namespace Go.Proofs.Ytoaiblhlpdaeoaa
set_option linter.unusedVariables false
set_option linter.unusedSimpArgs false
open Go.RowKit

theorem cycles_il (A : Option Addr) (n c : Nat) (a : List Nat) (w : World) (ha : IL w A n (zs a)) (pa : isP a) (h9 : a.length ≤ 9) :
    Calls Try.prog 89 #[.slice A n c] w fun e w' => ∃ (B : Option Addr) (m d : Nat), e = .returned (.tuple #[.slice B m d, .int .i64 0]) ∧ ILL w' B m ((cycs a).map zs) ∧ Below w.heap.size w w' :=
  (cycles_ok A n c a w ha pa h9).mono fun _ _ ⟨B, m, d, vs, he, ho, hr, hb⟩ => ⟨B, m, d, he, ILL.of_rows ho hr, hb⟩

theorem sgnL_take {xss : List (List Nat)} {k : Nat} (hk : k < xss.length) : sgnL (xss.take (k + 1)) = if (xss.getD k []).length % 2 = 0 then -sgnL (xss.take k) else sgnL (xss.take k) := by
  unfold sgnL
  rw [List.take_succ_eq_append_getElem hk, List.foldl_append]
  simp [List.getD, List.getElem?_eq_getElem hk]

theorem sgnL_one (xss : List (List Nat)) : ∀ k, k ≤ xss.length → sgnL (xss.take k) = 1 ∨ sgnL (xss.take k) = -1
  | 0, _ => .inl rfl
  | k + 1, hk => by
    rw [sgnL_take (by omega)]
    have := sgnL_one xss k (by omega)
    split <;> omega

theorem map_zs_getD (xss : List (List Nat)) (k : Nat) : (xss.map zs).getD k [] = zs (xss.getD k []) := by
  simp [List.getD]
  cases xss[k]? <;> rfl

set_option maxRecDepth 100000 in
set_option maxHeartbeats 1000000 in
theorem sign_ok (A : Option Addr) (n c : Nat) (a : List Nat) (w : World) (ha : IL w A n (zs a)) (pa : isP a) (h9 : a.length ≤ 9) :
    Calls Try.prog 44 #[.slice A n c] w fun e w' => e = .returned (.tuple #[.int .i64 (sgnL (cycs a)), .int .i64 0]) ∧ Below w.heap.size w w' := by
  have HC := hide (cycles_il A n c a w ha pa h9)
  have HP := hide (And.intro pa h9)
  clear ha pa h9
  go_enter Try.func44, Try.ntmps44
  go_wp2_with fail
  refine HC.out.mono ?_
  rintro e w1 ⟨B, m, d, rfl, hl1, hb1⟩
  have hm := hl1.small
  have HM : Hid ((cycs a).length = m) := by have := hl1.len; rw [List.length_map] at this; exact this
  go_wp2
  go_loop [6, 19] (fun ov i => ∃ k : Nat, k ≤ m ∧ i = .int .i64 k ∧ ov = .int .i64 (sgnL ((cycs a).take k))) (fun _ i => m - (intOf i).toNat)
  case atStart => exact ⟨0, Nat.zero_le _, rfl, rfl⟩
  case round =>
    obtain ⟨k, hk, rfl, rfl⟩ := hrel
    by_cases hlt : k < m
    · obtain ⟨ad, B8, m8, d8, rfl, hc8, hi8⟩ := hl1.at_ hlt
      have HT := hide (sgnL_take (xss := cycs a) (k := k) (by rw [HM.out]; exact hlt))
      have hone := sgnL_one (cycs a) k (by rw [HM.out]; exact hk)
      have hm8 : m8 = ((cycs a).getD k []).length := by
        have := hi8.len
        rw [map_zs_getD, zs_length] at this
        exact this.symm
      rw [← hm8] at HT
      have hm8s := hi8.small
      clear hm8 hi8 hl1
      have hs1 : -1 ≤ sgnL ((cycs a).take k) := by omega
      have hs2 : sgnL ((cycs a).take k) ≤ 1 := by omega
      clear hone
      generalize sgnL ((cycs a).take k) = o at *
      by_cases hev : m8 % 2 = 0
      · have HT' : Hid (sgnL ((cycs a).take (k + 1)) = -o) := by rw [HT.out, if_pos hev]; exact rfl
        have hb2 : (((m8 : Int) % 2) == 0) = true := by simp; omega
        clear hev
        go_wp2
        go_round
        case rel => exact ⟨k + 1, by omega, by go_num, by rw [HT'.out]⟩
        case measure => simp [intOf]; omega
      · have HT' : Hid (sgnL ((cycs a).take (k + 1)) = o) := by rw [HT.out, if_neg hev]; exact rfl
        have hb2 : (((m8 : Int) % 2) == 0) = false := by simp; omega
        clear hev
        go_wp2
        go_round
        case rel => exact ⟨k + 1, by omega, by go_num, by rw [HT'.out]⟩
        case measure => simp [intOf]; omega
    · have HE : Hid (sgnL ((cycs a).take k) = sgnL (cycs a)) := by rw [List.take_of_length_le (by rw [HM.out]; omega)]; exact rfl
      generalize sgnL ((cycs a).take k) = o at *
      go_wp2
      go_ret2
      rw [HE.out]
      exact ⟨rfl, hb1⟩

end Go.Proofs.Ytoaiblhlpdaeoaa
