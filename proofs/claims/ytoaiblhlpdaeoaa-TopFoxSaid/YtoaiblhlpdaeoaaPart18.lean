/- Several texts in one. -/
import Derived.Test.YtoaiblhlpdaeoaaPart17
import Derived.Test.YtoaiblhlpdaeoaaPart2
import Derived.Test.YtoaiblhlpdaeoaaPart1
import Derived.Test.YtoaiblhlpdaeoaaPart4
import Derived.Test.YtoaiblhlpdaeoaaPart12
import Derived.Test.YtoaiblhlpdaeoaaBase1
import Derived.Test.YtoaiblhlpdaeoaaPart3
import Derived.Test.YtoaiblhlpdaeoaaPart7
import Derived.Test.YtoaiblhlpdaeoaaBase2
import Derived.Test.YtoaiblhlpdaeoaaPart8
/- Package garside: Word; the contracts together. (Written by tools/gen_gword.py.) -/
namespace Go.Proofs.Ytoaiblhlpdaeoaa
set_option linter.unusedVariables false
set_option linter.unusedSimpArgs false
open Go.RowKit

theorem half_fault {n : Nat} (h1 : 2 ≤ n) (h6 : n ≤ 6) : bfault (n : Int) (halfW n) = 0 :=
  bfault_ok (by omega) (by omega) (by have := (half_len h1 h6).2.1; omega) fun x hx => by have := okB_half n x hx; omega
set_option maxRecDepth 100000 in
set_option maxHeartbeats 8000000 in
theorem gWord_any (m k : Int) (A : Option Addr) (l c : Nat) (xss : List (List Int)) (w : World) (ha : SLL w A l c xss) (hm : (Lit.int .i64 m).wf = true) (hkw : (Lit.int .i64 k).wf = true) :
    Calls Try.prog 19 #[.int .i64 m, .int .i64 k, .slice A l c] w (GivesLE w (wordE m k xss) (wordL m k xss)) := by
  have HCK := hide (gcheck_any m A l c xss w ha hm)
  have HA := hide ha
  have HWM := hide hm
  clear ha hm
  by_cases h0 : ffE m xss = 0
  case neg =>
    have HE : Hid (wordE m k xss = ffE m xss) := hide (by unfold wordE; rw [if_pos h0])
    have HV : Hid (wordL m k xss = []) := hide (by unfold wordL; rw [HE.out, if_neg h0])
    obtain ⟨f, hf⟩ : ∃ f, ffE m xss = f := ⟨_, rfl⟩
    have HF := hide hf
    rw [hf] at h0
    have hne : (f != 0) = true := by simpa using h0
    clear hf h0
    go_enter Try.func19, Try.ntmps19
    go_wp2_with fail
    refine HCK.out.mono ?_
    rintro e w1 ⟨rfl, hb⟩
    rw [HF.out]
    have HB := hide hb
    clear hb
    go_wp2_with fail
    go_ret2
    rw [HE.out, HV.out, HF.out]
    exact ⟨none, 0, 0, rfl, SL.nil_ _, HB.out⟩
  by_cases h30 : 30 < k.natAbs
  · have HE : Hid (wordE m k xss = 2) := hide (by unfold wordE; rw [if_neg (by simp [h0]), if_pos h30])
    have HV : Hid (wordL m k xss = []) := hide (by unfold wordL; rw [HE.out, if_neg (by decide)])
    have HF := hide h0
    have hkk : k < -30 ∨ 30 < k := by omega
    clear h0 h30
    rcases hkk with hk | hk
    · have hd1 : decide (k < -30) = true := decide_eq_true hk
      clear hk
      go_enter Try.func19, Try.ntmps19
      go_wp2_with fail
      refine HCK.out.mono ?_
      rintro e w1 ⟨rfl, hb⟩
      rw [HF.out]
      have HB := hide hb
      clear hb
      go_wp2_with fail
      go_ret2
      rw [HE.out, HV.out]
      exact ⟨none, 0, 0, rfl, SL.nil_ _, HB.out⟩
    · have hd1 : decide (k < -30) = false := decide_eq_false (by omega)
      have hd2 : decide ((30 : Int) < k) = true := decide_eq_true hk
      clear hk
      go_enter Try.func19, Try.ntmps19
      go_wp2_with fail
      refine HCK.out.mono ?_
      rintro e w1 ⟨rfl, hb⟩
      rw [HF.out]
      have HB := hide hb
      clear hb
      go_wp2_with fail
      go_ret2
      rw [HE.out, HV.out]
      exact ⟨none, 0, 0, rfl, SL.nil_ _, HB.out⟩
  obtain ⟨n, ps, rfl, h2, h6, rfl, hpl, hPL, _⟩ := ffE_ok h0
  have HE : Hid (wordE (n : Int) k (ps.map zs) = if 30 < (wriW n k ps).length then 2 else 0) := hide (by unfold wordE; rw [if_neg (by simp [h0]), if_neg h30, Int.toNat_natCast, nlL_zs])
  have HV : Hid (wordL (n : Int) k (ps.map zs) = if 30 < (wriW n k ps).length then [] else wriW n k ps) := hide (by
    unfold wordL
    rw [HE.out, Int.toNat_natCast, nlL_zs]
    split
    · rw [if_neg (by decide)]
    · rw [if_pos rfl])
  have HF := hide h0
  have HP := hide hPL
  have HL : Hid (ps.length = l) := hide (by have := HA.out.len; rwa [List.length_map] at this)
  have hl30 : l ≤ 30 := by rw [← HL.out]; exact hpl
  have hd1 : decide (k < -30) = false := decide_eq_false (by omega)
  have hd2 : decide ((30 : Int) < k) = false := decide_eq_false (by omega)
  obtain ⟨q1, q2, _⟩ := half_len h2 h6
  have HQ1 := hide q1
  have HQ2 := hide q2
  have HOK := hide (okB_half n)
  obtain ⟨i0, hi0, hz0, hz1, hz2⟩ := info_parts int_info
  have HI0 := hide hi0
  have HZ0 := hide hz0
  have HZ1 := hide hz1
  have HZ2 := hide hz2
  clear h0 hpl hPL q1 q2 hi0 hz0 hz1 hz2
  go_enter Try.func19, Try.ntmps19
  go_wp2_with fail
  refine HCK.out.mono ?_
  rintro e w0 ⟨rfl, hb⟩
  rw [HF.out]
  have HW := hide hb
  clear hb HCK
  go_wp2_with fail
  refine (ghalf_any n w0 (by omega)).mono ?_
  rintro e w1 ⟨F, fn, fc, rfl, ho, hb⟩
  have hfn : fn = n := by have := ho.len; rw [zs_length, (full_isP n).2] at this; exact this.symm
  subst hfn
  replace HW := hide (HW.out.trans (hb.mono HW.out.size))
  have HS := hide (gword_any F fn fc _ w1 ho.sl (full_isP fn).1 (full_isP fn).2 (by omega) h6)
  clear hb ho
  go_wp2_with fail
  refine HS.out.mono ?_
  rintro e w2 ⟨H, hn, hc, rfl, ho, hb⟩
  change OwnI w2 w1.heap.size H hn hc (halfW fn) at ho
  have hhn := ho.len
  replace HW := hide (HW.out.trans (hb.mono HW.out.size))
  have HH := hide ho.sl
  have HHN := hide hhn
  have hq1 := HQ1.out
  have hq2 := HQ2.out
  rw [hhn] at hq1 hq2
  clear hb ho hhn HS
  by_cases hneg : k < 0
  · obtain ⟨q, hq⟩ : ∃ q : Nat, k = -(q : Int) := ⟨k.natAbs, by omega⟩
    subst hq
    have hq30 : q ≤ 30 := by omega
    have hwq : IntKind.i64.wrap (- -(q : Int)) = (q : Int) := by rw [IntKind.wrap_i64]; omega
    have hmx : max (-(q : Int)) (- -(q : Int)) = (q : Int) := by omega
    have hmx2 : max (-(q : Int)) (q : Int) = (q : Int) := by omega
    have HPW : Hid (powW fn (-(q : Int)) = rep (invw (halfW fn)) q) := hide (by unfold powW; rw [if_pos hneg, show (-(q : Int)).natAbs = q by omega])
    have HBI := hide (binv_any (fn : Int) H hn hc _ w2 HH.out (wfI (by omega)))
    have hfz := half_fault h2 h6
    rw [hfz, show invB (fn : Int) (halfW fn) = invw (halfW fn) by unfold invB; rw [if_pos hfz]] at HBI
    clear hfz
    go_wp2_with fail
    refine HBI.out.mono ?_
    rintro e w3 ⟨D, dn, dc, rfl, hs, hb⟩
    have hdn : dn = hn := by have := hs.il.len; rw [invw_length, HHN.out] at this; exact this.symm
    subst hdn
    replace HW := hide (HW.out.trans (hb.mono HW.out.size))
    have HRP := hide (repeat_all D dn dc q _ w3 hs.il hq1 (by omega) (by have := Nat.mul_le_mul hq30 hq2; omega))
    rw [← HPW.out] at HRP
    clear hb hs HBI
    go_wp2_with ((with_reducible show wpList _ _ _ (Oper.mk _ (.call { callee := .builtin .max, args := _, argTypes := _ }) _ _ _ _ :: _) _ _); refine wpList_gives rfl (gives_maxI rfl rfl rfl (by first | exact hmx | exact hmx2)) ?_)
    refine HRP.out.mono ?_
    rintro e w4 ⟨R, rn, rc, rfl, ho, hb⟩
    have hrn : rn ≤ 450 := by
      have h1 := ho.len
      rw [HPW.out, rep_length] at h1
      have h3 := invw_length (halfW fn)
      rw [h3, HHN.out] at h1
      have := Nat.mul_le_mul hq30 hq2
      omega
    have HPL := hide ho.len
    have HO : Hid (OwnI w4 w.heap.size R rn rc (powW fn (-(q : Int)) ++ facW (ps.take 0))) := hide (by
      rw [List.take_zero, show facW [] = [] from rfl, List.append_nil]
      exact ho.mono HW.out.size)
    replace HW := hide (HW.out.trans (hb.mono HW.out.size))
    clear hb ho HRP HPW hwq HH HHN hq1 hq2 hmx hmx2 hneg
    go_wp2_with fail
    go_loopw [10, 44] (fun ov iv wr => ∃ (j : Nat) (D : Option Addr) (dn dc : Nat), j ≤ l ∧ iv = .int .i64 j ∧ ov = .slice D dn dc ∧ Hid (OwnI wr w.heap.size D dn dc (powW fn (-(q : Int)) ++ facW (ps.take j))) ∧ Hid (Below w.heap.size w wr)) (fun _ iv _ => l - (intOf iv).toNat)
    case atStart => exact ⟨0, R, rn, rc, Nat.zero_le _, rfl, rfl, HO, HW⟩
    case round =>
      clear HO HW
      obtain ⟨j, D, dn, dc, hj, rfl, rfl, HO, HB⟩ := hrel
      by_cases hjl : j < l
      · have hjp : j < ps.length := by rw [HL.out]; exact hjl
        obtain ⟨ad, B, bm, bd, rfl, hcl, hr⟩ := (HA.out.below HB.out).at_ hjl
        have hpm : ps.getD j [] ∈ ps := by rw [show ps.getD j [] = ps[j] by simp [List.getD, hjp]]; exact List.getElem_mem _
        obtain ⟨pp1, pp2⟩ := HP.out _ hpm
        rw [show (ps.map zs).getD j [] = zs (ps.getD j []) by simp [List.getD, hjp]] at hr
        have hbm : bm = fn := by have := hr.il.len; rw [zs_length, pp2] at this; exact this.symm
        subst hbm
        have HSP := hide (gword_any B bm bd _ wr hr pp1 pp2 (by omega) h6)
        have HFT := hide (facW_take hjp)
        have hdn : dn ≤ 2000 := by
          have h1 := HO.out.len
          rw [List.length_append, HPL.out] at h1
          have h3 := facW_len (n := bm) (l := ps.take j) (fun p hp => (HP.out p (List.mem_of_mem_take hp)).2) h6
          rw [List.length_take] at h3
          omega
        have hwl : (wrd (ps.getD j [])).length ≤ 36 := by
          have h1 := wrd_len (ps.getD j [])
          rw [pp2] at h1
          have := Nat.mul_le_mul h6 h6
          omega
        have HWL := hide hwl
        have HJL := hide hjl
        clear hjp hr hpm pp1 pp2 hwl
        generalize ps.getD j [] = p at *
        go_wp2_with fail
        refine HSP.out.mono ?_
        rintro e w5 ⟨S, sn, sc, rfl, ho, hb⟩
        have hsn : sn ≤ 36 := by have := ho.len; have := HWL.out; omega
        have HS5 := hide ho.il
        have hO5 := HO.out.below hb
        have HO5 := hide hO5
        have HB5 := hide (HB.out.trans (hb.mono HB.out.size))
        have hsz5 := HB5.out.size
        clear hb ho hO5 HSP hcl
        go_wp2_with (at_builtin; refine wpList_append_int _ rfl (.tmp 48) (.tmp 50) 22 rfl w.heap.size i0 Try.underlying22 HI0.out HZ0.out HZ1.out HZ2.out D dn dc _ rfl HO5.out S sn sc (wrd p) rfl HS5.out (by omega) hsz5 ?_; intro A9 c9 w9 happ)
        have ho := happ.own
        rw [List.append_assoc, ← HFT.out] at ho
        have HO9 := hide ho
        have hb9 : Below w.heap.size w w9 := HB5.out.grown happ.grown hsz5 (fun b hb => (HO5.out.lt b (by rw [ownBlock_len D dn (dn + sn) dc dc]; exact hb)).1)
        have HB9 := hide hb9
        clear ho hb9 happ
        have hjl := HJL.out
        go_wp2_with fail
        go_roundw
        case rel => exact ⟨j + 1, A9, dn + sn, c9, by omega, by go_num, rfl, HO9, HB9⟩
        case measure => simp [intOf]; omega
      · have hjl2 : j = l := by omega
        have HEW : Hid (OwnI wr w.heap.size D dn dc (wriW fn (-(q : Int)) ps)) := hide (by
          have h := HO.out
          rw [hjl2, List.take_of_length_le (by rw [HL.out]; exact Nat.le_refl _)] at h
          exact h)
        have HLN := hide HEW.out.len
        clear HO hjl2
        by_cases h31 : 30 < dn
        · have hdd : decide ((30 : Int) < (dn : Int)) = true := decide_eq_true (by omega)
          have HE2 := hide (HE.out.trans (if_pos (by rw [HLN.out]; exact h31)))
          have HV2 := hide (HV.out.trans (if_pos (by rw [HLN.out]; exact h31)))
          clear h31
          go_wp2_with fail
          go_ret2
          rw [HE2.out, HV2.out]
          exact ⟨none, 0, 0, rfl, SL.nil_ _, HB.out⟩
        · have hdd : decide ((30 : Int) < (dn : Int)) = false := decide_eq_false (by omega)
          have HE2 := hide (HE.out.trans (if_neg (by rw [HLN.out]; exact h31)))
          have HV2 := hide (HV.out.trans (if_neg (by rw [HLN.out]; exact h31)))
          clear h31
          go_wp2_with fail
          go_ret2
          rw [HE2.out, HV2.out]
          exact ⟨D, dn, dc, rfl, HEW.out.sl, HB.out⟩
  · obtain ⟨q, hq⟩ : ∃ q : Nat, k = (q : Int) := ⟨k.natAbs, by omega⟩
    subst hq
    have hq30 : q ≤ 30 := by omega
    have hwq : IntKind.i64.wrap (-(q : Int)) = -(q : Int) := by rw [IntKind.wrap_i64]; omega
    have hmx : max (q : Int) (-(q : Int)) = (q : Int) := by omega
    have hmx2 : True := trivial
    have HPW : Hid (powW fn (q : Int) = rep (halfW fn) q) := hide (by unfold powW; rw [if_neg hneg, Int.natAbs_natCast])
    have HRP := hide (repeat_all H hn hc q _ w2 HH.out.il hq1 (by omega) (by have := Nat.mul_le_mul hq30 hq2; omega))
    rw [← HPW.out] at HRP
    go_wp2_with ((with_reducible show wpList _ _ _ (Oper.mk _ (.call { callee := .builtin .max, args := _, argTypes := _ }) _ _ _ _ :: _) _ _); refine wpList_gives rfl (gives_maxI rfl rfl rfl (by first | exact hmx | exact hmx2)) ?_)
    refine HRP.out.mono ?_
    rintro e w4 ⟨R, rn, rc, rfl, ho, hb⟩
    have hrn : rn ≤ 450 := by
      have h1 := ho.len
      rw [HPW.out, rep_length] at h1
      rw [HHN.out] at h1
      have := Nat.mul_le_mul hq30 hq2
      omega
    have HPL := hide ho.len
    have HO : Hid (OwnI w4 w.heap.size R rn rc (powW fn (q : Int) ++ facW (ps.take 0))) := hide (by
      rw [List.take_zero, show facW [] = [] from rfl, List.append_nil]
      exact ho.mono HW.out.size)
    replace HW := hide (HW.out.trans (hb.mono HW.out.size))
    clear hb ho HRP HPW hwq HH HHN hq1 hq2 hmx hmx2 hneg
    go_wp2_with fail
    go_loopw [10, 44] (fun ov iv wr => ∃ (j : Nat) (D : Option Addr) (dn dc : Nat), j ≤ l ∧ iv = .int .i64 j ∧ ov = .slice D dn dc ∧ Hid (OwnI wr w.heap.size D dn dc (powW fn (q : Int) ++ facW (ps.take j))) ∧ Hid (Below w.heap.size w wr)) (fun _ iv _ => l - (intOf iv).toNat)
    case atStart => exact ⟨0, R, rn, rc, Nat.zero_le _, rfl, rfl, HO, HW⟩
    case round =>
      clear HO HW
      obtain ⟨j, D, dn, dc, hj, rfl, rfl, HO, HB⟩ := hrel
      by_cases hjl : j < l
      · have hjp : j < ps.length := by rw [HL.out]; exact hjl
        obtain ⟨ad, B, bm, bd, rfl, hcl, hr⟩ := (HA.out.below HB.out).at_ hjl
        have hpm : ps.getD j [] ∈ ps := by rw [show ps.getD j [] = ps[j] by simp [List.getD, hjp]]; exact List.getElem_mem _
        obtain ⟨pp1, pp2⟩ := HP.out _ hpm
        rw [show (ps.map zs).getD j [] = zs (ps.getD j []) by simp [List.getD, hjp]] at hr
        have hbm : bm = fn := by have := hr.il.len; rw [zs_length, pp2] at this; exact this.symm
        subst hbm
        have HSP := hide (gword_any B bm bd _ wr hr pp1 pp2 (by omega) h6)
        have HFT := hide (facW_take hjp)
        have hdn : dn ≤ 2000 := by
          have h1 := HO.out.len
          rw [List.length_append, HPL.out] at h1
          have h3 := facW_len (n := bm) (l := ps.take j) (fun p hp => (HP.out p (List.mem_of_mem_take hp)).2) h6
          rw [List.length_take] at h3
          omega
        have hwl : (wrd (ps.getD j [])).length ≤ 36 := by
          have h1 := wrd_len (ps.getD j [])
          rw [pp2] at h1
          have := Nat.mul_le_mul h6 h6
          omega
        have HWL := hide hwl
        have HJL := hide hjl
        clear hjp hr hpm pp1 pp2 hwl
        generalize ps.getD j [] = p at *
        go_wp2_with fail
        refine HSP.out.mono ?_
        rintro e w5 ⟨S, sn, sc, rfl, ho, hb⟩
        have hsn : sn ≤ 36 := by have := ho.len; have := HWL.out; omega
        have HS5 := hide ho.il
        have hO5 := HO.out.below hb
        have HO5 := hide hO5
        have HB5 := hide (HB.out.trans (hb.mono HB.out.size))
        have hsz5 := HB5.out.size
        clear hb ho hO5 HSP hcl
        go_wp2_with (at_builtin; refine wpList_append_int _ rfl (.tmp 48) (.tmp 50) 22 rfl w.heap.size i0 Try.underlying22 HI0.out HZ0.out HZ1.out HZ2.out D dn dc _ rfl HO5.out S sn sc (wrd p) rfl HS5.out (by omega) hsz5 ?_; intro A9 c9 w9 happ)
        have ho := happ.own
        rw [List.append_assoc, ← HFT.out] at ho
        have HO9 := hide ho
        have hb9 : Below w.heap.size w w9 := HB5.out.grown happ.grown hsz5 (fun b hb => (HO5.out.lt b (by rw [ownBlock_len D dn (dn + sn) dc dc]; exact hb)).1)
        have HB9 := hide hb9
        clear ho hb9 happ
        have hjl := HJL.out
        go_wp2_with fail
        go_roundw
        case rel => exact ⟨j + 1, A9, dn + sn, c9, by omega, by go_num, rfl, HO9, HB9⟩
        case measure => simp [intOf]; omega
      · have hjl2 : j = l := by omega
        have HEW : Hid (OwnI wr w.heap.size D dn dc (wriW fn (q : Int) ps)) := hide (by
          have h := HO.out
          rw [hjl2, List.take_of_length_le (by rw [HL.out]; exact Nat.le_refl _)] at h
          exact h)
        have HLN := hide HEW.out.len
        clear HO hjl2
        by_cases h31 : 30 < dn
        · have hdd : decide ((30 : Int) < (dn : Int)) = true := decide_eq_true (by omega)
          have HE2 := hide (HE.out.trans (if_pos (by rw [HLN.out]; exact h31)))
          have HV2 := hide (HV.out.trans (if_pos (by rw [HLN.out]; exact h31)))
          clear h31
          go_wp2_with fail
          go_ret2
          rw [HE2.out, HV2.out]
          exact ⟨none, 0, 0, rfl, SL.nil_ _, HB.out⟩
        · have hdd : decide ((30 : Int) < (dn : Int)) = false := decide_eq_false (by omega)
          have HE2 := hide (HE.out.trans (if_neg (by rw [HLN.out]; exact h31)))
          have HV2 := hide (HV.out.trans (if_neg (by rw [HLN.out]; exact h31)))
          clear h31
          go_wp2_with fail
          go_ret2
          rw [HE2.out, HV2.out]
          exact ⟨D, dn, dc, rfl, HEW.out.sl, HB.out⟩

theorem garC : GarC where
  normal := gnormal_any
  check := gcheck_any
  word := gWord_any
  equal := gequal_any
end Go.Proofs.Ytoaiblhlpdaeoaa
/- What package foxcalc's functions are to answer. -/
namespace Go.Proofs.Ytoaiblhlpdaeoaa
set_option linter.unusedVariables false
set_option linter.unusedSimpArgs false
open Go.RowKit

/-- The derivative. -/
noncomputable def foxR (xs : List Int) (i : Int) : LP.PR :=
  if ffault xs = 0 then (if 1 ≤ i ∧ i ≤ 6 then (0, (LP.canon (LP.foxT i xs)).1, (LP.canon (LP.foxT i xs)).2) else (1, 0, [])) else (ffault xs, 0, [])
/-- Package foxcalc, as the document asks. -/
structure FoxC : Prop where
  derivative : ∀ (A : Option Addr) (n c : Nat) (xs : List Int) (i : Int) (w : World), SL w A n c xs → (Lit.int .i64 i).wf = true → Calls Try.prog 36 #[.slice A n c, .int .i64 i] w (GivesPE w (foxR xs i))
end Go.Proofs.Ytoaiblhlpdaeoaa
/- freegroup.Check, reduced, inverse, checkBoth. -/
namespace Go.Proofs.Ytoaiblhlpdaeoaa
set_option linter.unusedVariables false
set_option linter.unusedSimpArgs false
open Go.RowKit

set_option maxHeartbeats 1000000 in
theorem fcheck_any (A : Option Addr) (n c : Nat) (xs : List Int) (w : World) (ha : IL w A n xs) :
    Calls Try.prog 78 #[.slice A n c] w fun e w' => e = .returned (.int .i64 (ffault xs)) ∧ w = w' := by
  have hl := ha.len
  have hns := ha.small
  have HA := hide ha
  have HL := hide hl
  by_cases h60 : 60 < n
  · have HF : Hid (ffault xs = 2) := hide (by unfold ffault; rw [if_pos (by omega)])
    clear ha hl
    go_enter Try.func78, Try.ntmps78
    go_wp2
    go_ret
    rw [HF.out]
    exact ⟨rfl, rfl⟩
  · have HF : Hid (ffault xs = if xs.all okL then 0 else 1) := hide (by unfold ffault; rw [if_neg (by omega)])
    clear ha hl
    go_enter Try.func78, Try.ntmps78
    go_wp2
    go_loop [10] (fun iv => ∃ k : Nat, k ≤ n ∧ iv = .int .i64 k ∧ Hid ((xs.take k).all okL = true)) (fun iv => n - (intOf iv).toNat)
    case atStart => exact ⟨0, Nat.zero_le _, rfl, by rw [List.take_zero]; exact rfl⟩
    case round =>
      obtain ⟨k, hk, rfl, HK⟩ := hrel
      by_cases hlt : k < n
      · obtain ⟨ad, rfl, hcl⟩ := HA.out.at_ hlt
        have HT := hide (all_take_succ (w := xs) (k := k) (by rw [HL.out]; exact hlt))
        have HM : Hid (xs.getD k 0 ∈ xs) := hide (by
          have hkl : k < xs.length := by rw [HL.out]; exact hlt
          rw [show xs.getD k 0 = xs[k] by simp [List.getD, List.getElem?_eq_getElem hkl]]
          exact List.getElem_mem _)
        obtain ⟨x, hx⟩ : ∃ x, xs.getD k 0 = x := ⟨_, rfl⟩
        rw [hx] at hcl HT HM
        clear hx
        by_cases hok : x ≠ 0 ∧ x ≤ 6 ∧ -6 ≤ x
        · have HN : Hid ((xs.take (k + 1)).all okL = true) := hide (by rw [HT.out, HK.out]; simp [okL, hok])
          obtain ⟨h0, h1, h2⟩ := hok
          have hb : (x == 0) = false := by simpa using h0
          clear h0
          go_wp2
          go_round
          case rel => exact ⟨k + 1, by omega, by go_num, HN.out⟩
          case measure => simp [intOf]; omega
        · have HN : Hid (xs.all okL = false) := hide (by
            rw [Bool.eq_false_iff]
            intro h
            have := List.all_eq_true.1 h x HM.out
            exact hok (by simpa [okL] using this))
          rw [HN.out] at HF
          by_cases h0 : x = 0
          · subst h0
            clear hok
            go_wp2
            go_ret
            rw [HF.out]
            exact ⟨rfl, rfl⟩
          · have hb : (x == 0) = false := by simpa using h0
            by_cases h1 : x < -6
            · clear hok h0
              go_wp2
              go_ret
              rw [HF.out]
              exact ⟨rfl, rfl⟩
            · have h2 : 6 < x := by
                rcases Int.lt_or_le 6 x with h | h
                · exact h
                · exact absurd ⟨h0, h, by omega⟩ hok
              clear hok h0
              go_wp2
              go_ret
              rw [HF.out]
              exact ⟨rfl, rfl⟩
      · have HE : Hid (xs.all okL = true) := hide (by
          have := HK.out
          rwa [List.take_of_length_le (by rw [HL.out]; omega)] at this)
        rw [HE.out] at HF
        go_wp2
        go_ret
        rw [HF.out]
        exact ⟨rfl, rfl⟩

end Go.Proofs.Ytoaiblhlpdaeoaa
/- Package foxcalc: sign, Exponent, Derivative. -/
namespace Go.Proofs.Ytoaiblhlpdaeoaa
set_option linter.unusedVariables false
set_option linter.unusedSimpArgs false
open Go.RowKit

theorem cmp1_sign (x : Int) : cmp1 x 0 = Int.sign x := by
  unfold cmp1
  rcases Int.lt_trichotomy x 0 with h | h | h
  · rw [if_pos h, Int.sign_eq_neg_one_of_neg h]
  · subst h; rfl
  · rw [if_neg (by omega), if_pos h, Int.sign_eq_one_of_pos h]
theorem take_snoc_ {xs : List Int} {k : Nat} (h : k < xs.length) : xs.take (k + 1) = xs.take k ++ [xs.getD k 0] := by
  rw [List.take_succ_eq_append_getElem h]
  simp [List.getD, List.getElem?_eq_getElem h]
theorem expo_take_ {xs : List Int} {k : Nat} (h : k < xs.length) : LP.expo (xs.take (k + 1)) = LP.expo (xs.take k) + Int.sign (xs.getD k 0) := by
  rw [take_snoc_ h, LP.expo_append, LP.expo_cons, LP.expo_nil, Int.add_zero]
theorem expo_take_le_ (xs : List Int) (k : Nat) : (LP.expo (xs.take k)).natAbs ≤ k := by
  have := LP.expo_le (xs.take k)
  rw [List.length_take] at this
  omega

set_option maxHeartbeats 1000000 in
theorem fxsign_any (x : Int) (w : World) : Calls Try.prog 79 #[.int .i64 x] w fun e w' => e = .returned (.int .i64 (Int.sign x)) ∧ w = w' := by
  have HC := hide (cmp_any x 0 w)
  rw [cmp1_sign] at HC
  generalize Int.sign x = s at *
  go_enter Try.func79, Try.ntmps79
  go_wp2_with fail
  refine HC.out.mono ?_
  rintro e w1 ⟨rfl, rfl⟩
  go_wp2_with fail
  go_ret
  exact ⟨rfl, rfl⟩

namespace LP
theorem term_rt {e s : Int} (hs : s = 1 ∨ s = -1) (he : e.natAbs ≤ 100) : Rt (term e s) :=
  (Sm.term e s (l := e) (h := e) (B := 1) (by omega) (by omega) (by omega)).pfl (by omega) (by omega) (by omega) (by omega)
theorem fox_add {x : LP} {lo : Int} {cs : List Int} {e s : Int} (hx : canon x = (lo, cs)) (hr : Rt x) (hs : s = 1 ∨ s = -1) (he : e.natAbs ≤ 100) (hn : Rt (x + term e s)) :
    addR lo cs e [s] = (0, (canon (x + term e s)).1, (canon (x + term e s)).2) := by
  have h := addR_canon hr (term_rt hs he) hn
  have h2 := canon_term e s hs
  rw [of_one] at h2
  rw [hx, h2] at h
  exact h
theorem foxT_take {xs : List Int} (i : Int) {k : Nat} (h : k < xs.length) : foxT i (xs.take (k + 1)) = foxT i (xs.take k) + term (expo (xs.take k)) 1 * dx i (xs.getD k 0) := by
  rw [take_snoc_ h, foxT_append, foxT_one]
theorem dx_pos {i e : Int} : term e 1 * dx i i = term e 1 := by unfold dx; rw [if_pos rfl, CR.mul_one]
theorem dx_neg {i x e : Int} (h : x = -i) (h1 : 1 ≤ i) : term e 1 * dx i x = term (e - 1) (-1) := by
  unfold dx
  rw [if_neg (by omega), if_pos h, term_mul]
  rfl
theorem dx_other {i x e : Int} (h : x ≠ i) (h1 : x ≠ -i) : term e 1 * dx i x = 0 := by
  unfold dx
  rw [if_neg h, if_neg h1, CR.mul_zero]
theorem foxT_take_rt (i : Int) {xs : List Int} (h : xs.length ≤ 60) (k : Nat) : Rt (foxT i (xs.take k)) := foxT_rt i (by rw [List.length_take]; omega)
end LP

set_option maxRecDepth 100000 in
set_option maxHeartbeats 8000000 in
theorem derivative_any (A : Option Addr) (n c : Nat) (xs : List Int) (i : Int) (w : World) (ha : SL w A n c xs) (wi : (Lit.int .i64 i).wf = true) :
    Calls Try.prog 36 #[.slice A n c, .int .i64 i] w (GivesPE w (foxR xs i)) := by
  have ha0 := ha
  have hbw : Below w.heap.size w (w.alloc (.cells #[.int .i64 0, .slice none 0 0] 54)) := (Below.refl _ _).alloc (Nat.le_refl _) _
  have hR := Blk.new w 54 #[.int .i64 0, .slice none 0 0]
  have HCK := hide (fcheck_any A n c xs _ (ha.il.below hbw))
  have hns := ha.il.small
  have HL := hide ha.il.len
  have HA := hide (ha.below hbw)
  have HW := hide hbw
  have BR := hide hR
  obtain ⟨T, hT⟩ : ∃ T, foxR xs i = T := ⟨_, rfl⟩
  have HT := hide hT
  rw [hT]
  have HZ := hide (fun h => ffault_zero (w := xs) h)
  obtain ⟨f, hf⟩ : ∃ f, ffault xs = f := ⟨_, rfl⟩
  rw [hf] at HCK
  have HF := hide hf
  clear ha hbw hR hT hf wi
  by_cases h0 : f = 0
  case neg =>
    have hne : (f != 0) = true := by simpa using h0
    have HE : Hid (T = (f, 0, [])) := hide (by
      rw [← HT.out]
      unfold foxR
      rw [if_neg (by rw [HF.out]; exact h0), HF.out])
    clear h0 HZ HT HF
    go_enter Try.func36, Try.ntmps36
    go_upto_region 1 with fail
    obtain ⟨w0, hw0⟩ : ∃ x, w.alloc (.cells #[.int .i64 0, .slice none 0 0] 54) = x := ⟨_, rfl⟩
    rw [hw0] at HCK HA HW BR ⊢
    clear hw0
    go_wp2_with fail
    refine HCK.out.mono ?_
    rintro e w1 ⟨rfl, rfl⟩
    have hf0 := BR.out.frozen 0
    have hf1 := BR.out.frozen 1
    have hr0 := BR.out.cell 0
    have hr1 := BR.out.cell 1
    simp at hr0 hr1
    have hlt := BR.out.lt
    go_wp2_with fail
    refine bodyPost_ret (results_pe rfl _ rfl rfl ((BR.out.set_ 0 (.int .i64 0)).set_ 1 (.slice none 0 0))) rfl ?_
    rw [HE.out]
    refine ⟨none, 0, 0, rfl, SL.nil_ _, fun h => absurd h (by omega), ?_⟩
    exact (HW.out.setCell (p := ⟨w.heap.size, 0, none⟩) (Nat.le_refl _) _).setCell (p := ⟨w.heap.size, 1, none⟩) (Nat.le_refl _) _
  subst h0
  have hn60 : n ≤ 60 := by have := (HZ.out HF.out).1; have := HL.out; omega
  clear HZ
  by_cases hi : 1 ≤ i ∧ i ≤ 6
  case neg =>
    have HE : Hid (T = (1, 0, [])) := hide (by
      rw [← HT.out]
      unfold foxR
      rw [if_pos HF.out, if_neg hi])
    clear HT HF
    have hx : i < 1 ∨ (1 ≤ i ∧ 6 < i) := by omega
    clear hi
    go_enter Try.func36, Try.ntmps36
    go_upto_region 1 with fail
    obtain ⟨w0, hw0⟩ : ∃ x, w.alloc (.cells #[.int .i64 0, .slice none 0 0] 54) = x := ⟨_, rfl⟩
    rw [hw0] at HCK HA HW BR ⊢
    clear hw0
    go_wp2_with fail
    refine HCK.out.mono ?_
    rintro e w1 ⟨rfl, rfl⟩
    have hf0 := BR.out.frozen 0
    have hf1 := BR.out.frozen 1
    have hr0 := BR.out.cell 0
    have hr1 := BR.out.cell 1
    simp at hr0 hr1
    have hlt := BR.out.lt
    rcases hx with hx | ⟨hx1, hx⟩
    · go_wp2_with fail
      refine bodyPost_ret (results_pe rfl _ rfl rfl ((BR.out.set_ 0 (.int .i64 0)).set_ 1 (.slice none 0 0))) rfl ?_
      rw [HE.out]
      refine ⟨none, 0, 0, rfl, SL.nil_ _, fun h => absurd h (by omega), ?_⟩
      exact (HW.out.setCell (p := ⟨w.heap.size, 0, none⟩) (Nat.le_refl _) _).setCell (p := ⟨w.heap.size, 1, none⟩) (Nat.le_refl _) _
    · go_wp2_with fail
      refine bodyPost_ret (results_pe rfl _ rfl rfl ((BR.out.set_ 0 (.int .i64 0)).set_ 1 (.slice none 0 0))) rfl ?_
      rw [HE.out]
      refine ⟨none, 0, 0, rfl, SL.nil_ _, fun h => absurd h (by omega), ?_⟩
      exact (HW.out.setCell (p := ⟨w.heap.size, 0, none⟩) (Nat.le_refl _) _).setCell (p := ⟨w.heap.size, 1, none⟩) (Nat.le_refl _) _
  have HE : Hid (T = (0, (LP.canon (LP.foxT i xs)).1, (LP.canon (LP.foxT i xs)).2)) := hide (by
    rw [← HT.out]
    unfold foxR
    rw [if_pos HF.out, if_pos hi])
  obtain ⟨hi1, hi2⟩ := hi
  clear HT HF
  have HA1 := hide ha0
  clear ha0
  have HRT := hide (fun k => LP.foxT_take_rt i (xs := xs) (by rw [HL.out]; exact hn60) k)
  go_enter Try.func36, Try.ntmps36
  go_upto_region 1 with fail
  obtain ⟨w0, hw0⟩ : ∃ x, w.alloc (.cells #[.int .i64 0, .slice none 0 0] 54) = x := ⟨_, rfl⟩
  rw [hw0] at HCK HA HW BR ⊢
  have hs0 : w0.heap.size = w.heap.size + 1 := by rw [← hw0]; simp
  clear hw0
  go_wp2_with fail
  refine HCK.out.mono ?_
  rintro e w1 ⟨rfl, rfl⟩
  clear HCK
  go_upto_region 7 with fail
  have hb2 : Below w0.heap.size w0 (w0.alloc (.cells #[.int .i64 0, .slice none 0 0] 54)) := (Below.refl _ _).alloc (Nat.le_refl _) _
  have B7 := hide (Blk.new w0 54 #[.int .i64 0, .slice none 0 0])
  replace HA := hide (HA.out.below hb2)
  replace BR := hide (BR.out.below hb2 BR.out.lt)
  replace HW := hide (HW.out.trans (hb2.mono HW.out.size))
  obtain ⟨w2, hw2⟩ : ∃ x, w0.alloc (.cells #[.int .i64 0, .slice none 0 0] 54) = x := ⟨_, rfl⟩
  obtain ⟨g, hg⟩ : ∃ g, w0.heap.size = g := ⟨_, rfl⟩
  rw [hw2] at HA BR HW B7 ⊢
  rw [hg] at B7 hs0
  subst hs0
  have hgw := B7.out.lt
  clear hw2 hb2 hg HA
  go_wp2_with fail
  go_loopw [8, 28] (fun bv iv wr => ∃ (k m d : Nat) (e lo : Int) (C : Option Addr) (cs : List Int), iv = .int .i64 k ∧ k ≤ n ∧ bv = .int .i64 e ∧ -60 ≤ e ∧ e ≤ 60 ∧ Hid (e = LP.expo (xs.take k)) ∧ Hid (LP.canon (LP.foxT i (xs.take k)) = (lo, cs)) ∧ Hid (SL wr C m d cs) ∧ Hid (NewA w2 C m) ∧ Hid (Blk wr (w.heap.size + 1) 54 #[.int .i64 lo, .slice C m d]) ∧ Hid (Below (w.heap.size + 1) w2 wr)) (fun _ iv _ => n - (intOf iv).toNat)
  case atStart =>
    exact ⟨0, 0, 0, 0, 0, none, [], rfl, Nat.zero_le _, rfl, by omega, by omega, hide (by rw [List.take_zero]; rfl), hide (by rw [List.take_zero]; exact LP.canon_zero), hide (SL.nil_ _), hide (fun h => absurd h (by omega)), B7, hide (Below.refl _ _)⟩
  case round =>
    obtain ⟨k, m, d, e, lo, C, cs, rfl, hk, rfl, he1, he2, HES, HCN, HSL, HNW, HBK, HB⟩ := hrel
    have hf0 := HBK.out.frozen 0
    have hf1 := HBK.out.frozen 1
    have hc0 := HBK.out.cell 0
    have hc1 := HBK.out.cell 1
    simp at hc0 hc1
    have hgr := HBK.out.lt
    by_cases hlt : k < n
    · obtain ⟨ad, rfl, hcl⟩ := (HA1.out.below (HW.out.trans (HB.out.mono (by omega)))).il.at_ hlt
      have hkl : k < xs.length := by rw [HL.out]; exact hlt
      have HET := hide (expo_take_ hkl)
      have HFT := hide (LP.foxT_take i hkl)
      have hle := expo_take_le_ xs (k + 1)
      rw [HET.out, ← HES.out] at hle
      rw [← HES.out] at HET HFT
      generalize xs.getD k 0 = x at *
      clear hkl
      have hw2r := HB.out.size
      by_cases hxi : x = i
      · have hsg : Int.sign x = 1 := Int.sign_eq_one_of_pos (by omega)
        have HG := hide (fun (w : World) => fxsign_any x w)
        rw [hsg] at HG HET hle
        rw [hxi, LP.dx_pos] at HFT
        have HADD := hide (LP.fox_add (e := e) (s := 1) HCN.out (HRT.out k) (.inl rfl) (by omega) (by rw [← HFT.out]; exact HRT.out (k + 1)))
        rw [← HFT.out] at HADD
        have hxe : (x == i) = true := by simpa using hxi
        clear hsg hxi
        go_wp2_with fail
        refine (HG.out _).mono ?_
        rintro e' w' ⟨rfl, rfl⟩
        go_wp2_with fail
        refine (HG.out _).mono ?_
        rintro e' w' ⟨rfl, rfl⟩
        go_upto_region 14 with fail
        have hb3 : Below wr.heap.size wr ((wr.alloc (.cells #[.int .i64 1] 3)).alloc (.cells #[.int .i64 e, .slice (some ⟨wr.heap.size, 0, none⟩) 1 1] 54)) := ((Below.refl _ _).alloc (Nat.le_refl _) _).alloc (by simp) _
        have hsl := (SL.lit wr [1] (by decide) rfl rfl).below ((Below.refl _ _).alloc (Nat.le_refl _) (.cells #[.int .i64 e, .slice (some ⟨wr.heap.size, 0, none⟩) 1 1] 54))
        have hbt := Blk.new (wr.alloc (.cells #[.int .i64 1] 3)) 54 #[.int .i64 e, .slice (some ⟨wr.heap.size, 0, none⟩) 1 1]
        simp only [World.size_alloc] at hbt
        change SL ((wr.alloc (.cells #[.int .i64 1] 3)).alloc (.cells #[.int .i64 e, .slice (some ⟨wr.heap.size, 0, none⟩) 1 1] 54)) _ _ _ _ at hsl
        replace HSL := hide (HSL.out.below hb3)
        replace HBK := hide (HBK.out.below hb3 HBK.out.lt)
        replace HB := hide (HB.out.trans (hb3.mono (by omega)))
        have hsz3 := hb3.size
        clear hf0 hf1 hc0 hc1 hcl
        obtain ⟨w3, hw3⟩ : ∃ x, (wr.alloc (.cells #[.int .i64 1] 3)).alloc (.cells #[.int .i64 e, .slice (some ⟨wr.heap.size, 0, none⟩) 1 1] 54) = x := ⟨_, rfl⟩
        rw [hw3] at hsl hbt HSL HBK HB hsz3 ⊢
        clear hw3 hb3
        have hc0 := HBK.out.cell 0
        have hc1 := HBK.out.cell 1
        have ht0 := hbt.cell 0
        have ht1 := hbt.cell 1
        simp at hc0 hc1 ht0 ht1
        have HLT := hide hsl
        clear hsl hbt
        go_wp2_with fail
        refine (ladd_any lo C m d cs (e) _ 1 1 [1] w3 HSL.out HLT.out).mono ?_
        rintro e' w4 ⟨R, rn, rc, rfl, hs, hnw, hb⟩
        rw [HADD.out] at hs ⊢
        dsimp only at hs ⊢
        replace HBK := hide (HBK.out.below hb HBK.out.lt)
        replace HB := hide (HB.out.trans (hb.mono (by omega)))
        have HS := hide hs
        have HNR := hide hnw
        clear hs hnw hb hc0 hc1 ht0 ht1 HSL HLT HNW
        have hf0 := HBK.out.frozen 0
        have hf1 := HBK.out.frozen 1
        have hc0 := HBK.out.cell 0
        have hc1 := HBK.out.cell 1
        simp at hc0 hc1
        have hgr4 := HBK.out.lt
        obtain ⟨⟨lr, cr⟩, hlc⟩ : ∃ q, LP.canon (LP.foxT i (xs.take (k + 1))) = q := ⟨_, rfl⟩
        rw [hlc] at HS ⊢
        have HLC := hide hlc
        clear hlc HADD HG HFT HCN
        dsimp only at HS ⊢
        go_wp2_with fail
        go_roundw
        case rel =>
          refine ⟨k + 1, rn, rc, e + 1, lr, R, cr, by go_num, by omega, by go_num, by omega, by omega, hide HET.out.symm, HLC, hide ?_, hide (fun h ad e => by have := HNR.out h ad e; omega), hide ((HBK.out.set_ 0 (.int .i64 lr)).set_ 1 (.slice R rn rc)), hide ?_⟩
          · exact (HS.out.setCell (fun h ad e => by have := HNR.out h ad e; omega) 0 _).setCell (fun h ad e => by have := HNR.out h ad e; omega) 1 _
          · exact (HB.out.setCell (p := ⟨w.heap.size + 1, 0, none⟩) (Nat.le_refl _) _).setCell (p := ⟨w.heap.size + 1, 1, none⟩) (Nat.le_refl _) _
        case measure => simp [intOf]; omega
      · by_cases hxn : x = -i
        · have hsg : Int.sign x = -1 := Int.sign_eq_neg_one_of_neg (by omega)
          have HG := hide (fun (w : World) => fxsign_any x w)
          rw [hsg] at HG HET hle
          rw [LP.dx_neg hxn hi1] at HFT
          have HADD := hide (LP.fox_add (e := e - 1) (s := -1) HCN.out (HRT.out k) (.inr rfl) (by omega) (by rw [← HFT.out]; exact HRT.out (k + 1)))
          rw [← HFT.out] at HADD
          have hxe : (x == i) = false := by simpa using hxi
          have hxe2 : (x == -i) = true := by simpa using hxn
          have he3 : e + -1 = e - 1 := by omega
          have hwi : IntKind.i64.wrap (-i) = -i := by rw [IntKind.wrap_i64]; omega
          clear hsg hxi hxn
          go_wp2_with fail
          refine (HG.out _).mono ?_
          rintro e' w' ⟨rfl, rfl⟩
          go_wp2_with fail
          refine (HG.out _).mono ?_
          rintro e' w' ⟨rfl, rfl⟩
          go_upto_region 14 with fail
          have hb3 : Below wr.heap.size wr ((wr.alloc (.cells #[.int .i64 (-1)] 3)).alloc (.cells #[.int .i64 (e - 1), .slice (some ⟨wr.heap.size, 0, none⟩) 1 1] 54)) := ((Below.refl _ _).alloc (Nat.le_refl _) _).alloc (by simp) _
          have hsl := (SL.lit wr [(-1)] (by decide) rfl rfl).below ((Below.refl _ _).alloc (Nat.le_refl _) (.cells #[.int .i64 (e - 1), .slice (some ⟨wr.heap.size, 0, none⟩) 1 1] 54))
          have hbt := Blk.new (wr.alloc (.cells #[.int .i64 (-1)] 3)) 54 #[.int .i64 (e - 1), .slice (some ⟨wr.heap.size, 0, none⟩) 1 1]
          simp only [World.size_alloc] at hbt
          change SL ((wr.alloc (.cells #[.int .i64 (-1)] 3)).alloc (.cells #[.int .i64 (e - 1), .slice (some ⟨wr.heap.size, 0, none⟩) 1 1] 54)) _ _ _ _ at hsl
          replace HSL := hide (HSL.out.below hb3)
          replace HBK := hide (HBK.out.below hb3 HBK.out.lt)
          replace HB := hide (HB.out.trans (hb3.mono (by omega)))
          have hsz3 := hb3.size
          clear hf0 hf1 hc0 hc1 hcl
          obtain ⟨w3, hw3⟩ : ∃ x, (wr.alloc (.cells #[.int .i64 (-1)] 3)).alloc (.cells #[.int .i64 (e - 1), .slice (some ⟨wr.heap.size, 0, none⟩) 1 1] 54) = x := ⟨_, rfl⟩
          rw [hw3] at hsl hbt HSL HBK HB hsz3 ⊢
          clear hw3 hb3
          have hc0 := HBK.out.cell 0
          have hc1 := HBK.out.cell 1
          have ht0 := hbt.cell 0
          have ht1 := hbt.cell 1
          simp at hc0 hc1 ht0 ht1
          have HLT := hide hsl
          clear hsl hbt
          go_wp2_with fail
          refine (ladd_any lo C m d cs ((e - 1)) _ 1 1 [(-1)] w3 HSL.out HLT.out).mono ?_
          rintro e' w4 ⟨R, rn, rc, rfl, hs, hnw, hb⟩
          rw [HADD.out] at hs ⊢
          dsimp only at hs ⊢
          replace HBK := hide (HBK.out.below hb HBK.out.lt)
          replace HB := hide (HB.out.trans (hb.mono (by omega)))
          have HS := hide hs
          have HNR := hide hnw
          clear hs hnw hb hc0 hc1 ht0 ht1 HSL HLT HNW
          have hf0 := HBK.out.frozen 0
          have hf1 := HBK.out.frozen 1
          have hc0 := HBK.out.cell 0
          have hc1 := HBK.out.cell 1
          simp at hc0 hc1
          have hgr4 := HBK.out.lt
          obtain ⟨⟨lr, cr⟩, hlc⟩ : ∃ q, LP.canon (LP.foxT i (xs.take (k + 1))) = q := ⟨_, rfl⟩
          rw [hlc] at HS ⊢
          have HLC := hide hlc
          clear hlc HADD HG HFT HCN
          dsimp only at HS ⊢
          go_wp2_with fail
          go_roundw
          case rel =>
            refine ⟨k + 1, rn, rc, e + (-1), lr, R, cr, by go_num, by omega, by go_num, by omega, by omega, hide HET.out.symm, HLC, hide ?_, hide (fun h ad e => by have := HNR.out h ad e; omega), hide ((HBK.out.set_ 0 (.int .i64 lr)).set_ 1 (.slice R rn rc)), hide ?_⟩
            · exact (HS.out.setCell (fun h ad e => by have := HNR.out h ad e; omega) 0 _).setCell (fun h ad e => by have := HNR.out h ad e; omega) 1 _
            · exact (HB.out.setCell (p := ⟨w.heap.size + 1, 0, none⟩) (Nat.le_refl _) _).setCell (p := ⟨w.heap.size + 1, 1, none⟩) (Nat.le_refl _) _
          case measure => simp [intOf]; omega
        · have hsl := LP.sign_le x
          have HG := hide (fun (w : World) => fxsign_any x w)
          rw [LP.dx_other hxi hxn] at HFT
          have HNX : Hid (LP.canon (LP.foxT i (xs.take (k + 1))) = (lo, cs)) := hide (by rw [HFT.out, CR.add_zero, HCN.out])
          have hxe : (x == i) = false := by simpa using hxi
          have hxe2 : (x == -i) = false := by simpa using hxn
          have hwi : IntKind.i64.wrap (-i) = -i := by rw [IntKind.wrap_i64]; omega
          generalize Int.sign x = t at *
          clear hxi hxn HFT HCN
          go_wp2_with fail
          refine (HG.out _).mono ?_
          rintro e' w' ⟨rfl, rfl⟩
          go_wp2_with fail
          go_roundw
          case rel => exact ⟨k + 1, m, d, e + t, lo, C, cs, by go_num, by omega, by go_num, by omega, by omega, hide HET.out.symm, HNX, HSL, HNW, HBK, HB⟩
          case measure => simp [intOf]; omega
    · have hkn : k = n := by omega
      have HX : Hid (T = (0, lo, cs)) := hide (by
        have h := HCN.out
        rw [List.take_of_length_le (by rw [HL.out]; omega)] at h
        rw [HE.out, h])
      have BR4 := hide (BR.out.below HB.out (by omega))
      clear hkn HE HCN HRT
      have hq0 := BR4.out.frozen 0
      have hq1 := BR4.out.frozen 1
      have hs0' := BR4.out.cell 0
      have hs1' := BR4.out.cell 1
      simp at hs0' hs1'
      have hlt4 := BR4.out.lt
      go_wp2_with fail
      refine bodyPost_ret (results_pe rfl _ rfl rfl ((BR4.out.set_ 0 (.int .i64 lo)).set_ 1 (.slice C m d))) rfl ?_
      rw [HX.out]
      have hsz2 := HW.out.size
      refine ⟨C, m, d, rfl, ?_, fun h ad e => by have := HNW.out h ad e; omega, ?_⟩
      · exact (HSL.out.setCell (fun h ad e => by have := HNW.out h ad e; omega) 0 _).setCell (fun h ad e => by have := HNW.out h ad e; omega) 1 _
      · exact ((HW.out.trans (HB.out.mono (by omega))).setCell (p := ⟨w.heap.size, 0, none⟩) (Nat.le_refl _) _).setCell (p := ⟨w.heap.size, 1, none⟩) (Nat.le_refl _) _

theorem foxC : FoxC where
  derivative A n c xs i w ha wi := derivative_any A n c xs i w ha wi -- 36
end Go.Proofs.Ytoaiblhlpdaeoaa
/- timbref1.Image. (Written by tools/gen_image.py.) -/
namespace Go.Proofs.Ytoaiblhlpdaeoaa
set_option linter.unusedVariables false
set_option linter.unusedSimpArgs false
open Go.RowKit

def bz (B : Nat) (u : List Int) : Prop := ∀ z ∈ u, z ≠ 0 ∧ z.natAbs ≤ B
theorem bz.nz {B : Nat} {u : List Int} (h : bz B u) : Proofs.Ytoaiblhlpdaeoaa.nz u := fun z hz => (h z hz).1
theorem bz.inv {B : Nat} {u : List Int} (h : bz B u) : bz B (invw u) := fun z hz => by
  have : ∃ x ∈ u, -x = z := by simpa [invw] using hz
  obtain ⟨x, hx, rfl⟩ := this
  have := h x hx
  omega
end Go.Proofs.Ytoaiblhlpdaeoaa
/- timbmake.Strands; timbkeep1.sides. -/
namespace Go.Proofs.Ytoaiblhlpdaeoaa
set_option linter.unusedVariables false
set_option linter.unusedSimpArgs false
open Go.RowKit

/-- Two words that are equal by a relation. -/
structure Side (N : Nat) (xs ys : List Int) : Prop where
  b : RelB xs ys
  e : RelE xs ys
  x : LP.expo xs = LP.expo ys
  ok1 : okB N xs
  ok2 : okB N ys
  l1 : xs.length ≤ 3
  l2 : ys.length ≤ 3
  a : RelA xs ys
end Go.Proofs.Ytoaiblhlpdaeoaa
/- GarsideSame. -/
namespace Go.Proofs.Ytoaiblhlpdaeoaa
set_option linter.unusedVariables false
set_option linter.unusedSimpArgs false
open Go.RowKit Gar

theorem word_okB {T : Nat} {us : List Int} (h : ∀ x ∈ us, x ≠ 0 ∧ x ≤ (T : Int) ∧ -(T : Int) ≤ x) : okB (T + 1) us := fun x hx => by have := h x hx; omega
theorem bf_ok {n : Nat} (h1 : 1 ≤ n) (h6 : n ≤ 6) {w : List Int} (hw : okB n w) (hl : w.length ≤ 30) : bfault (n : Int) w = 0 := bfault_ok (by omega) (by omega) hl fun x hx => by have := hw x hx; omega
theorem eq2_ok {n : Nat} {a b : List Int} (h1 : bfault (n : Int) a = 0) (h2 : bfault (n : Int) b = 0) : eq2E (n : Int) a b = 0 := by unfold eq2E; rw [if_neg (by rw [h1]; simp), h2]
open Classical in
theorem geq_yes {n : Nat} {a b : List Int} (h1 : bfault (n : Int) a = 0) (h2 : bfault (n : Int) b = 0) (e : gp n a = gp n b) : geqB (n : Int) a b = true := by
  unfold geqB
  rw [Int.toNat_natCast, decide_eq_true (eq2_ok h1 h2), decide_eq_true e]
  rfl
end Go.Proofs.Ytoaiblhlpdaeoaa
