/- Several texts of the walk in one. -/
import Derived.Test.YtihpmdfeonphpaaPart7
import Derived.Test.YtihpmdfeonphpaaPart5
import Derived.Test.YtihpmdfeonphpaaPart11
import Derived.Test.YtihpmdfeonphpaaPart3
import Derived.Test.YtihpmdfeonphpaaBase
import Derived.Test.YtihpmdfeonphpaaPart10
import Derived.Test.YtihpmdfeonphpaaPart8
import Derived.Test.YtihpmdfeonphpaaPart9
/- timbkeep1.ArtinFixes, for packages artin, braid and freegroup that answer as they should. (Written by tools/gen_afix.py.) -/
namespace Go.Proofs.Ytihpmdfeonphpaa
set_option linter.unusedVariables false
set_option linter.unusedSimpArgs false
open Go.RowKit

theorem okB_word5 {T : Nat} {us : List Int} (h : ∀ x ∈ us, x ≠ 0 ∧ x ≤ (T : Int) ∧ -(T : Int) ≤ x) : okB (T + 1) us := fun x hx => by have := h x hx; omega
theorem fault5 {T : Nat} (hT : T ≤ 5) {us : List Int} (h : okB (T + 1) us) (hl : us.length ≤ 5) : bfault ((T : Int) + 1) us = 0 := bfault_ok (by omega) (by omega) (by omega) fun x hx => by have := h x hx; omega
theorem SL.grownRow {w w' : World} {A : Option Addr} {n c : Nat} {xs : List Int} {row : Option Nat} (h : SL w A n c xs) (hg : w.grownBy w' row) (hne : 0 < n → ∀ ad, A = some ad → some ad.block ≠ row) : SL w' A n c xs :=
  ⟨⟨h.il.len, h.il.small, fun hn => by
    obtain ⟨ad, e, hl, hc⟩ := h.il.mem hn
    refine ⟨ad, e, Nat.lt_of_lt_of_le hl hg.size, fun j hj => ?_⟩
    rw [hg.cell_far (ad.add j) (by rw [block_of_add]; exact hl) (by rw [block_of_add]; exact hne hn ad e)]
    exact hc j hj⟩, h.nil, h.cap⟩
theorem ends_getD {n s : Nat} (w : List Int) (h : s < n) : (zs (endsL n w)).getD s 0 = ((endE w s : Nat) : Int) := by
  unfold zs endsL
  simp [List.getD, h]

set_option maxRecDepth 100000 in
set_option maxHeartbeats 8000000 in
theorem artinFixes_any (F : ArtinC) (FB : BraidC) (FF : FreeC) (FN : ProdNew) (nn : Int) (A : Option Addr) (n c : Nat) (us : List Int) (w : World) (ha : SL w A n c us) :
    Calls Try.prog 5 #[.int .i64 nn, .slice A n c] w fun e w' => e = .returned (.bool true) ∧ Below w.heap.size w w' := by
  have HF := hide F
  have HFB := hide FB
  have HFF := hide FF
  have HFN := hide FN
  have HA := hide ha
  have HW := hide (Below.refl w.heap.size w)
  obtain ⟨i0, hi0, hz0, hz1, hz2⟩ := info_parts int_info
  have HI0 := hide hi0
  have HZ0 := hide hz0
  have HZ1 := hide hz1
  have HZ2 := hide hz2
  clear F FB FF FN ha hi0 hz0 hz1 hz2
  go_enter Try.func5, Try.ntmps5
  go_wp2_with fail
  refine (strands_any nn _).mono ?_
  rintro e w1 ⟨T, hT1, hT5, rfl, hww⟩
  replace hww := hww.symm
  subst hww
  have HWM := hide (wfI (x := (T : Int) + 1) (by omega))
  go_wp2_with fail
  refine (word_any A T n c 5 us _ HA.out.il HA.out.cap (by omega) (by omega) (by omega)).mono ?_
  rintro e w2 ⟨us2, U, un, uc, rfl, ho, hok, hl, hb⟩
  replace HA := hide (HA.out.below hb)
  replace HW := hide (HW.out.trans (hb.mono HW.out.size))
  have SU := hide ho.sl
  have OU := hide (okB_word5 hok)
  have LU : Hid (us2.length ≤ 5) := hide (by have := ho.sl.il.len; omega)
  have HBF := hide (fault5 hT5 OU.out LU.out)
  have HAE : Hid (artE ((T : Int) + 1) us2 = 0) := hide (by rw [artE_short (by have := LU.out; omega)]; exact HBF.out)
  have HAI : Hid (artI ((T : Int) + 1) us2 = imgs (T + 1) us2) := hide (by unfold artI; rw [if_pos HAE.out]; rfl)
  have HPE : Hid (permE ((T : Int) + 1) us2 = zs (endsL (T + 1) us2)) := hide (by unfold permE; rw [if_pos HBF.out]; rfl)
  clear hb ho hok hl
  clear HA
  go_upto_region 3 with fail
  go_wp2_with fail
  refine (HF.out.images ((T : Int) + 1) U un uc us2 _ SU.out HWM.out).mono ?_
  rintro e w3 ⟨L, ln, lc, rfl, hs, hb⟩
  replace HW := hide (HW.out.trans (hb.mono HW.out.size))
  replace SU := hide (SU.out.below hb)
  rw [HAE.out]
  rw [HAI.out] at hs
  have hln : T + 1 = ln := by rw [← hs.len, imgs_length]
  subst hln
  have SLL_ := hide hs
  clear hb hs
  go_upto_region 4 with fail
  go_wp2_with fail
  refine (HFB.out.perm ((T : Int) + 1) U un uc us2 _ SU.out HWM.out).mono ?_
  rintro e w4 ⟨R, rn, rc, rfl, hs, hb⟩
  replace HW := hide (HW.out.trans (hb.mono HW.out.size))
  replace SU := hide (SU.out.below hb)
  replace SLL_ := hide (SLL_.out.below hb)
  rw [HBF.out]
  rw [HPE.out] at hs
  have hrn : T + 1 = rn := by rw [← hs.il.len, zs_length, endsL_length]
  subst hrn
  have SR := hide hs
  clear hb hs
  go_upto_region 5 with fail
  go_wp2_with fail
  refine (imaged_k HF.out _).mono ?_
  rintro e w5 ⟨rfl, hb⟩
  replace HW := hide (HW.out.trans (hb.mono HW.out.size))
  replace SU := hide (SU.out.below hb)
  replace SLL_ := hide (SLL_.out.below hb)
  replace SR := hide (SR.out.below hb)
  clear hb
  have hTT : (((T + 1 : Nat) : Int) != (T : Int) + 1) = false := by simp
  go_upto_region 8 with fail
  obtain ⟨N, hN⟩ : ∃ N, T + 1 = N := ⟨_, rfl⟩
  have HN6 : Hid (N ≤ 6) := hide (by omega)
  rw [hN] at OU SLL_ SR ⊢
  have hTi : (T : Int) + 1 = (N : Int) := by omega
  rw [hTi]
  have HNT := hide hN
  clear hN hTT hTi
  have HB0 := hide (Below.refl w5.heap.size w5)
  have HC0 := hide (OwnI.nil_ w5 w5.heap.size)
  have HP0 : Hid (SL w5 none 0 0 (imgP us2 0)) := hide (by rw [imgP_zero]; exact SL.nil_ _)
  go_wp2_with fail
  go_loopw [10, 11, 54] (fun av cv iv wr => ∃ (k : Nat) (E : Option Addr) (en ec : Nat) (C : Option Addr) (d : Nat), k ≤ N ∧ iv = .int .i64 k ∧ av = .slice E en ec ∧ cv = .slice C k d ∧ Hid (SL wr E en ec (imgP us2 k)) ∧ Hid ((imgP us2 k).length ≤ 60) ∧ Hid (OwnI wr w5.heap.size C k d (gens k)) ∧ Hid (Below w5.heap.size w5 wr)) (fun _ _ iv _ => N - (intOf iv).toNat)
  case atStart => exact ⟨0, none, 0, 0, none, 0, Nat.zero_le _, rfl, rfl, rfl, HP0, hide (by rw [imgP_zero]; simp), HC0, HB0⟩
  case round =>
    clear HP0 HC0 HB0
    obtain ⟨k, E, en, ec, C, d, hk, rfl, rfl, rfl, HP, HPL, HC, HBW⟩ := hrel
    by_cases hlt : k < N
    · have hszw := HBW.out.size
      obtain ⟨ad, B, m, e, rfl, hcl0, hx⟩ := SLL_.out.at_ hlt
      rw [imgs_getD us2 hlt] at hx
      have had : ad.block < w5.heap.size := by
        obtain ⟨a2, e2, hl2, _⟩ := SLL_.out.mem (by omega)
        cases e2
        exact hl2
      have hcl := (HBW.out.cell (p := ad.add k) (by rw [block_of_add]; exact had)).trans hcl0
      have HXF := hide (imgX_fault HN6.out OU.out LU.out hlt)
      have HXC := hide (imgX_conj HN6.out OU.out LU.out hlt)
      have HX0 : Hid (SL w5 B m e (imgX us2 k)) := hide hx
      have HX := hide (HX0.out.below HBW.out)
      have hm60 : m ≤ 54 := by rw [← HX.out.il.len]; exact HXF.out.2
      have HPF := hide (imgP_fault HN6.out hk OU.out HPL.out)
      have HSUC := hide (imgP_succ us2 k)
      have HGS := hide (gens_succ k)
      have HLT := hide hlt
      have HWr := hide (HW.out.trans (HBW.out.mono HW.out.size))
      have hk6 : k < 6 := by have := HN6.out; omega
      clear hx hk hcl0 had
      have hdm : decide ((60 : Int) < (m : Int)) = false := decide_eq_false (by omega)
      have HM60 := hide hm60
      clear hm60
      go_upto_region 13 with fail
      clear hcl hdm
      go_wp2_with fail
      refine (HFN.out E B en ec m e _ _ _ HP.out HX.out).mono ?_
      rintro e w6 ⟨Q, qn, qc, rfl, hs, hnw, hb⟩
      replace HP := hide (HP.out.below hb)
      replace HX := hide (HX.out.below hb)
      replace HBW := hide (HBW.out.trans (hb.mono HBW.out.size))
      replace HWr := hide (HWr.out.trans (hb.mono HWr.out.size))
      have SQ := hide hs
      have HNW := hide hnw
      have HCL := hide HC.out.lt
      have HC2 := hide ((KeepT.below hb).ownI HC.out)
      clear HC
      clear hb hs hnw
      have HPE2 : Hid (prodE (imgP us2 k) (imgX us2 k) = if 60 < (imgP us2 (k + 1)).length then 2 else 0) := hide (by unfold prodE; rw [if_pos HPF.out, if_pos HXF.out.1, HSUC.out])
      by_cases hbig : 60 < (imgP us2 (k + 1)).length
      · rw [if_pos hbig] at HPE2
        rw [HPE2.out]
        clear hbig
        go_wp2_with fail
        go_ret
        exact ⟨rfl, HWr.out⟩
      · rw [if_neg hbig] at HPE2
        have HL2 : Hid ((imgP us2 (k + 1)).length ≤ 60) := hide (by omega)
        clear hbig
        rw [HPE2.out]
        have HQL : Hid (prodL (imgP us2 k) (imgX us2 k) = imgP us2 (k + 1)) := hide (by unfold prodL; rw [if_pos HPE2.out, HSUC.out])
        rw [HQL.out] at SQ
        clear HPE2 HQL
        have hszw2 := HBW.out.size
        have hoc := HC2.out
        have hx1 : IntKind.i64.wrap ((k : Int) + 1) = (k : Int) + 1 := by rw [IntKind.wrap_i64]; omega
        go_upto_region 17 with (first | (at_builtin; refine wpList_append_int _ rfl (.tmp 71) (.tmp 74) 22 rfl w5.heap.size i0 Try.underlying22 HI0.out HZ0.out HZ1.out HZ2.out C k d (gens k) rfl (hoc.alloc _) (some ⟨w6.heap.size, 0, none⟩) 1 1 [(k : Int) + 1] rfl (IL.lit w6 [(k : Int) + 1] (by simp) rfl rfl) (by omega) (Nat.le_trans hszw2 (by simp)) ?_; intro A9 c9 w9 happ))
        have ho := happ.own
        rw [← HGS.out] at ho
        have HO9 := hide ho
        have hlies : ∀ q, (Value.slice C k d).ownBlock = some q → w5.heap.size ≤ q := fun q hq => (hoc.lt q hq).1
        have hb9 : Below w5.heap.size w5 w9 := (HBW.out.alloc hszw2 _).grown happ.grown (Nat.le_trans hszw2 (by simp)) (fun q hq => hlies q (by rw [ownBlock_len C k (k + 1) d d]; exact hq))
        have SQ9 := hide ((SQ.out.below ((Below.refl _ _).alloc (Nat.le_refl _) (.cells #[.int .i64 ((k : Int) + 1)] 3))).grownRow happ.grown (fun hq ad2 e2 h3 => by
          have h1 := HNW.out hq ad2 e2
          have h2 := HCL.out ad2.block (by rw [ownBlock_len C k (k + 1) d d]; exact h3.symm)
          omega))
        have HB9 := hide hb9
        have HX9 := hide (HX0.out.below hb9)
        have SR9 := hide (SR.out.below hb9)
        have HW9 := hide (HW.out.trans (hb9.mono HW.out.size))
        clear happ ho hlies hb9 hoc HC2 hszw hszw2 HP HX HBW HWr SQ HPF HX0 HCL HNW hx1
        obtain ⟨rd, hR, hcl⟩ := SR9.out.il.at_ HLT.out
        subst hR
        rw [ends_getD us2 HLT.out] at hcl
        have hend : endE us2 k < 6 := by have h1 := endE_lt OU.out HLT.out; have := HN6.out; omega
        obtain ⟨q, hq⟩ : ∃ q, endE us2 k = q := ⟨_, rfl⟩
        rw [hq] at hcl hend HXC
        clear hq
        have hltN := HLT.out
        go_wp2_with fail
        clear hcl
        have hlit : SL (w9.alloc (.cells #[.int .i64 ((q : Int) + 1)] 3)) (some ⟨w9.heap.size, 0, none⟩) 1 1 [(q : Int) + 1] := SL.lit w9 [(q : Int) + 1] (by simp) rfl rfl
        have hal : Below w9.heap.size w9 (w9.alloc (.cells #[.int .i64 ((q : Int) + 1)] 3)) := (Below.refl _ _).alloc (Nat.le_refl _) _
        refine (HFF.out.conjugate B (some ⟨w9.heap.size, 0, none⟩) m e 1 1 _ _ _ (HX9.out.below hal) hlit).mono ?_
        rintro e2 w7 ⟨rfl, hb0⟩
        have hb := hal.trans (hb0.mono hal.size)
        have HO10 := hide ((KeepT.below hb).ownI HO9.out)
        replace SQ9 := hide (SQ9.out.below hb)
        replace HX9 := hide (HX9.out.below hb)
        replace SR9 := hide (SR9.out.below hb)
        replace HB9 := hide (HB9.out.trans (hb.mono HB9.out.size))
        replace HW9 := hide (HW9.out.trans (hb.mono HW9.out.size))
        rw [HXC.out.1, HXC.out.2]
        clear hb hb0 hal hlit HO9 hend
        have hlt := HLT.out
        go_wp2_with fail
        go_roundw
        case rel => exact ⟨k + 1, Q, qn, qc, A9, c9, by omega, by go_num, rfl, rfl, SQ9, HL2, HO10, HB9⟩
        case measure => simp [intOf]; omega
    · have hkN : k = N := by omega
      subst hkN
      have HPN : Hid (imgP us2 k = gens k) := hide (imgP_full OU.out)
      rw [HPN.out] at HP
      have HWr := hide (HW.out.trans (HBW.out.mono HW.out.size))
      have HCS := hide HC.out.sl
      clear HC hk hlt
      go_wp2_with fail
      refine (equal_any E C en k ec d _ _ _ HP.out.il HCS.out.il).mono ?_
      rintro e w6 ⟨rfl, hb⟩
      replace HP := hide (HP.out.below hb)
      replace HCS := hide (HCS.out.below hb)
      replace HWr := hide (HWr.out.trans (hb.mono HWr.out.size))
      rw [eqB_true rfl]
      clear hb
      go_wp2_with fail
      go_ret
      exact ⟨rfl, HWr.out⟩
end Go.Proofs.Ytihpmdfeonphpaa
/- The facts 'multiplied' that the laws of polynomials begin with. -/
namespace Go.Proofs.Ytihpmdfeonphpaa
set_option linter.unusedVariables false
set_option linter.unusedSimpArgs false
open Go.RowKit

theorem mulR_k : LP.mulR (-1) [1, 1] 0 [1, 1] = (0, -1, [1, 2, 1]) := by
  have he : LP.of (-1) [1, 2, 1] = LP.of (-1) [1, 1] * LP.of 0 [1, 1] := LP.mk_eq fun k => by
    show (if -1 = k then (1 : Int) else 0) + ((if 0 = k then (2 : Int) else 0) + ((if 1 = k then (1 : Int) else 0) + 0)) = (if -1 = k then (1 : Int) else 0) + ((if 0 = k then (1 : Int) else 0) + ((if 0 = k then (1 : Int) else 0) + ((if 1 = k then (1 : Int) else 0) + 0)))
    grind
  have hc := LP.canon_eq (lo := -1) (cs := [1, 2, 1]) (.inr ⟨by simp, by decide, by decide⟩) he
  unfold LP.mulR LP.two2
  rw [if_pos (by decide), if_pos (by decide), LP.fit_ok (by rw [hc]; decide), hc]
theorem mulR_r : LP.mulR 0 [1, 1] 0 [1, -1] = (0, 0, [1, 0, -1]) := by
  have he : LP.of 0 [1, 0, -1] = LP.of 0 [1, 1] * LP.of 0 [1, -1] := LP.mk_eq fun k => by
    show (if 0 = k then (1 : Int) else 0) + ((if 1 = k then (0 : Int) else 0) + ((if 2 = k then (-1 : Int) else 0) + 0)) = (if 0 = k then (1 : Int) else 0) + ((if 1 = k then (-1 : Int) else 0) + ((if 1 = k then (1 : Int) else 0) + ((if 2 = k then (-1 : Int) else 0) + 0)))
    grind
  have hc := LP.canon_eq (lo := 0) (cs := [1, 0, -1]) (.inr ⟨by simp, by decide, by decide⟩) he
  unfold LP.mulR LP.two2
  rw [if_pos (by decide), if_pos (by decide), LP.fit_ok (by rw [hc]; decide), hc]

end Go.Proofs.Ytihpmdfeonphpaa
/- timbkeep1's mul, add, same and multiplied in drawn regions. -/
namespace Go.Proofs.Ytihpmdfeonphpaa
set_option linter.unusedVariables false
set_option linter.unusedSimpArgs false
open Go.RowKit

theorem gives_eqlE {P : Program} {o : Oper} {a : Act} {w : World} {x y : Operand} {ty : TypeId} {m k : Int} {b : Bool} (ho : o.op = .binOp .eql 24 x y ty) (hx : a.eval x = .int .i64 m) (hy : a.eval y = .int .i64 k) (hz : (m == k) = b) : Gives P o a w (.bool b) := by
  subst hz
  unfold Gives execOp
  rw [ho]
  simp [hx, hy, eqGuard, binOp, Op.intCmp, Sem.run_bind, Result.andThen]
theorem gives_neqE {P : Program} {o : Oper} {a : Act} {w : World} {x y : Operand} {ty : TypeId} {m k : Int} {b : Bool} (ho : o.op = .binOp .neq 24 x y ty) (hx : a.eval x = .int .i64 m) (hy : a.eval y = .int .i64 k) (hz : (m != k) = b) : Gives P o a w (.bool b) := by
  subst hz
  unfold Gives execOp
  rw [ho]
  simp [hx, hy, eqGuard, binOp, Op.intCmp, Sem.run_bind, Result.andThen]
theorem gives_notE {P : Program} {o : Oper} {a : Act} {w : World} {x : Operand} {t : TypeId} {b c : Bool} (ho : o.op = .unOp .not t x) (hx : a.eval x = .bool b) (hc : (!b) = c) : Gives P o a w (.bool c) := by
  subst hc
  unfold Gives execOp
  rw [ho]
  simp [hx, Op.unary, Sem.run_bind, Result.andThen]
theorem gives_build {P : Program} {o : Oper} {a : Act} {w : World} {t : TypeId} {l : List (Nat × Operand)} {cells : Array Value} (vs : List (Nat × Value)) (ho : o.op = .build t l.toArray) (hv : (l.map fun (i, x) => (i, a.eval x)) = vs) (hb : P.built t vs = some cells) : Gives P o a w (.agg cells) := by
  subst hv
  unfold Gives execOp
  rw [ho]
  have e : ((l.toArray.map fun (i, x) => (i, a.eval x)).toList) = l.map fun (i, x) => (i, a.eval x) := by simp
  have := run_build (P := P) w t (l.toArray.map fun (i, x) => (i, a.eval x)) cells (by rw [e]; exact hb)
  simp only [Sem.run_bind, this, Result.andThen_ok, Sem.run_pure]
end Go.Proofs.Ytihpmdfeonphpaa
/- timbkeep1.around; timbkeep1.matrices. (Written by tools/gen_around.py.) -/
namespace Go.Proofs.Ytihpmdfeonphpaa
set_option linter.unusedVariables false
set_option linter.unusedSimpArgs false
open Go.RowKit

theorem okB_word {T : Nat} {us : List Int} (h : ∀ x ∈ us, x ≠ 0 ∧ x ≤ (T : Int) ∧ -(T : Int) ≤ x) : okB (T + 1) us := fun x hx => by have := h x hx; omega
/-- Two words that are equal by a relation, in the middle of others. -/
def GivesAround (N K : Nat) (w : World) (e : Ending) (w' : World) : Prop :=
  ∃ A n c B m d us vs xs ys, e = .returned (.tuple #[.slice A n c, .slice B m d]) ∧ SL w' A n c (us ++ xs ++ vs) ∧ SL w' B m d (us ++ ys ++ vs) ∧ Side N xs ys ∧ okB N us ∧ okB N vs ∧ us.length ≤ K ∧ vs.length ≤ K ∧ Below w.heap.size w w'

set_option maxRecDepth 100000 in
set_option maxHeartbeats 4000000 in
theorem around_any (T K : Nat) (kz : Int) (hkz : kz = (K : Int)) (hT : 1 ≤ T ∧ T ≤ 5) (hK : K ≤ 10) (A : Option Addr) (n c : Nat) (us : List Int) (B : Option Addr) (m d : Nat) (vs : List Int) (i k : Int) (w : World) (ha : SL w A n c us) (hb : SL w B m d vs) :
    Calls Try.prog 20 #[.int .i64 ((T : Int) + 1), .slice A n c, .slice B m d, .int .i64 i, .int .i64 k, .int .i64 kz] w (GivesAround (T + 1) K w) := by
  subst hkz
  have HA := hide ha
  have HB := hide hb
  have HW := hide (Below.refl w.heap.size w)
  clear ha hb
  go_enter Try.func20, Try.ntmps20
  go_wp2_with fail
  refine (sides_any T hT i k _).mono ?_
  rintro e w1 ⟨P, pn, pc, Q, qn, qc, xs, ys, rfl, hs1, hs2, hsd, hb⟩
  replace HA := hide (HA.out.below hb)
  replace HB := hide (HB.out.below hb)
  replace HW := hide (HW.out.trans (hb.mono HW.out.size))
  have SP := hide hs1
  have SQ := hide hs2
  have SD := hide hsd
  clear hb hs1 hs2 hsd
  go_wp2_with fail
  refine (word_any A T n c K us _ HA.out.il HA.out.cap (by omega) (by omega) (by omega)).mono ?_
  rintro e w2 ⟨us2, U, un, uc, rfl, ho, hok, hl, hb⟩
  replace HA := hide (HA.out.below hb)
  replace HB := hide (HB.out.below hb)
  replace HW := hide (HW.out.trans (hb.mono HW.out.size))
  replace SP := hide (SP.out.below hb)
  replace SQ := hide (SQ.out.below hb)
  have SU := hide ho.sl
  have OU := hide (okB_word hok)
  have LU := hide hl
  have NU := hide ho.sl.il.len
  clear hb ho hok hl
  go_wp2_with fail
  refine (word_any B T m d K vs _ HB.out.il HB.out.cap (by omega) (by omega) (by omega)).mono ?_
  rintro e w3 ⟨vs2, V, vn, vc, rfl, ho, hok, hl, hb⟩
  replace HA := hide (HA.out.below hb)
  replace HB := hide (HB.out.below hb)
  replace HW := hide (HW.out.trans (hb.mono HW.out.size))
  replace SP := hide (SP.out.below hb)
  replace SQ := hide (SQ.out.below hb)
  replace SU := hide (SU.out.below hb)
  have SV := hide ho.sl
  have OV := hide (okB_word hok)
  have LV := hide hl
  have NV := hide ho.sl.il.len
  clear hb ho hok hl
  go_wp2_with fail
  have HLIT := hide (show ILL (w3.alloc (.cells #[.slice U un uc, .slice P pn pc, .slice V vn vc] 22)) (some ⟨w3.heap.size, 0, none⟩) 3 [us2, xs, vs2] from
    ILL.lit (vs := [.slice U un uc, .slice P pn pc, .slice V vn vc]) rfl (by simp) (fun j hj => by
      match j, hj with
      | 0, _ => exact ⟨_, _, _, rfl, SU.out.il⟩
      | 1, _ => exact ⟨_, _, _, rfl, SP.out.il⟩
      | 2, _ => exact ⟨_, _, _, rfl, SV.out.il⟩
      | j + 3, h => exact absurd h (by simp)) rfl rfl)
  have hal : Below w3.heap.size w3 (w3.alloc (.cells #[.slice U un uc, .slice P pn pc, .slice V vn vc] 22)) := (Below.refl _ _).alloc (Nat.le_refl _) _
  have hfl : [us2, xs, vs2].flatten = us2 ++ xs ++ vs2 := by simp
  refine (concat_any (some ⟨w3.heap.size, 0, none⟩) 3 3 _ _ HLIT.out (by rw [hfl]; simp only [List.length_append]; have := SD.out.l1; have := SD.out.l2; have := LU.out; have := LV.out; have := NU.out; have := NV.out; omega)).mono ?_
  rintro e w4 ⟨D, dn, dc, rfl, ho, hb0⟩
  have hb := hal.trans (hb0.mono hal.size)
  rw [hfl] at ho
  replace HA := hide (HA.out.below hb)
  replace HB := hide (HB.out.below hb)
  replace HW := hide (HW.out.trans (hb.mono HW.out.size))
  replace SP := hide (SP.out.below hb)
  replace SQ := hide (SQ.out.below hb)
  replace SU := hide (SU.out.below hb)
  replace SV := hide (SV.out.below hb)
  have S1 := hide ho.sl
  clear ho hb0 hal hfl HLIT hb
  go_wp2_with fail
  have HLIT := hide (show ILL (w4.alloc (.cells #[.slice U un uc, .slice Q qn qc, .slice V vn vc] 22)) (some ⟨w4.heap.size, 0, none⟩) 3 [us2, ys, vs2] from
    ILL.lit (vs := [.slice U un uc, .slice Q qn qc, .slice V vn vc]) rfl (by simp) (fun j hj => by
      match j, hj with
      | 0, _ => exact ⟨_, _, _, rfl, SU.out.il⟩
      | 1, _ => exact ⟨_, _, _, rfl, SQ.out.il⟩
      | 2, _ => exact ⟨_, _, _, rfl, SV.out.il⟩
      | j + 3, h => exact absurd h (by simp)) rfl rfl)
  have hal : Below w4.heap.size w4 (w4.alloc (.cells #[.slice U un uc, .slice Q qn qc, .slice V vn vc] 22)) := (Below.refl _ _).alloc (Nat.le_refl _) _
  have hfl : [us2, ys, vs2].flatten = us2 ++ ys ++ vs2 := by simp
  refine (concat_any (some ⟨w4.heap.size, 0, none⟩) 3 3 _ _ HLIT.out (by rw [hfl]; simp only [List.length_append]; have := SD.out.l1; have := SD.out.l2; have := LU.out; have := LV.out; have := NU.out; have := NV.out; omega)).mono ?_
  rintro e w5 ⟨G, gn, gc, rfl, ho, hb0⟩
  have hb := hal.trans (hb0.mono hal.size)
  rw [hfl] at ho
  replace HA := hide (HA.out.below hb)
  replace HB := hide (HB.out.below hb)
  replace HW := hide (HW.out.trans (hb.mono HW.out.size))
  replace SP := hide (SP.out.below hb)
  replace SQ := hide (SQ.out.below hb)
  replace SU := hide (SU.out.below hb)
  replace SV := hide (SV.out.below hb)
  replace S1 := hide (S1.out.below hb)
  have S2 := hide ho.sl
  clear ho hb0 hal hfl HLIT hb
  go_wp2_with fail
  go_ret2
  exact ⟨D, dn, dc, G, gn, gc, us2, vs2, xs, ys, rfl, S1.out, S2.out, SD.out, OU.out, OV.out, by have := LU.out; have := NU.out; omega, by have := LV.out; have := NV.out; omega, HW.out⟩

end Go.Proofs.Ytihpmdfeonphpaa
/- timbkeep1.ArtinRelations, for a package artin that answers as it should. (Written by tools/gen_arel.py.) -/
namespace Go.Proofs.Ytihpmdfeonphpaa
set_option linter.unusedVariables false
set_option linter.unusedSimpArgs false
open Go.RowKit

/-- Two words that are equal by a relation, and one with another letter. -/
structure TwoA (N : Nat) (a b b2 : List Int) : Prop where
  fa : bfault (N : Int) a = 0
  fb : bfault (N : Int) b = 0
  fc : bfault (N : Int) b2 = 0
  same : imgs N a = imgs N b
  other : imgs N a ≠ imgs N b2
theorem relA_letter {j : Nat} (hj : 0 < j) : ¬ RelA [] [(j : Int)] := fun h => by
  have h1 := h [(j : Int)] (fun z hz => by simp at hz; omega)
  have h2 : nf (artC [(j : Int)] [(j : Int)]) = [(j : Int), (j : Int) + 1, -(j : Int)] := by
    show nf (artW (j : Int) [(j : Int)]) = _
    rw [artW_one, artL_p hj]
    exact nf_of_red ⟨by omega, by omega, trivial⟩
  rw [h2] at h1
  have h3 : [(j : Int)] = [(j : Int), (j : Int) + 1, -(j : Int)] := h1
  simp at h3
theorem two_a {N : Nat} (hN : 1 ≤ N ∧ N ≤ 6) {xs ys us vs : List Int} (h : Side N xs ys) (hu : okB N us) (hv : okB N vs) (lu : us.length ≤ 5) (lv : vs.length ≤ 5) {j : Nat} (hj : 0 < j) (hj2 : j < N) : TwoA N (us ++ xs ++ vs) (us ++ ys ++ vs) (us ++ ys ++ vs ++ [(j : Int)]) := by
  have oa : okB N (us ++ xs ++ vs) := okB_app (okB_app hu h.ok1) hv
  have ob : okB N (us ++ ys ++ vs) := okB_app (okB_app hu h.ok2) hv
  have oj : okB N [(j : Int)] := fun x hx => by simp at hx; omega
  have oc : okB N (us ++ ys ++ vs ++ [(j : Int)]) := okB_app ob oj
  have f : ∀ w : List Int, okB N w → w.length ≤ 14 → bfault (N : Int) w = 0 := fun w hw hl => bfault_ok (by omega) (by omega) (by omega) fun x hx => by have := hw x hx; omega
  have hr : RelA (us ++ xs ++ vs) (us ++ ys ++ vs) := h.a.mid (okB_nz h.ok1) (okB_nz h.ok2) (okB_nz hu) (okB_nz hv)
  have l1 := h.l1
  have l2 := h.l2
  refine ⟨f _ oa (by simp; omega), f _ ob (by simp; omega), f _ oc (by simp; omega), (relA_imgs oa ob).1 hr, fun e => ?_⟩
  have h1 := (relA_imgs oa oc).2 e
  have h2 := relA_trans hr.symm h1
  generalize us ++ ys ++ vs = b at *
  have nb := okB_nz ob
  have nc := okB_nz oc
  have h3 := h2.mid nb nc (p := invw b) (s := []) (nz_invw nb) nz_nil
  rw [List.append_nil, List.append_nil] at h3
  have h4 := (relA_inv' nb).mid ((nz_invw nb).app nb) nz_nil (p := []) (s := [(j : Int)]) nz_nil (okB_nz oj)
  rw [List.nil_append, List.nil_append, List.nil_append, List.append_assoc] at h4
  exact relA_letter hj (relA_trans (relA_inv' nb).symm (relA_trans h3 h4))

set_option maxRecDepth 100000 in
set_option maxHeartbeats 8000000 in
theorem artinRelations_any (F : ArtinC) (nn : Int) (A : Option Addr) (n c : Nat) (us : List Int) (B : Option Addr) (m d : Nat) (vs : List Int) (i k : Int) (w : World) (ha : SL w A n c us) (hb : SL w B m d vs) :
    Calls Try.prog 6 #[.int .i64 nn, .slice A n c, .slice B m d, .int .i64 i, .int .i64 k] w fun e w' => e = .returned (.bool true) ∧ Below w.heap.size w w' := by
  have HF := hide F
  have HA := hide ha
  have HB := hide hb
  have HW := hide (Below.refl w.heap.size w)
  obtain ⟨i0, hi0, hz0, hz1, hz2⟩ := info_parts int_info
  have HI0 := hide hi0
  have HZ0 := hide hz0
  have HZ1 := hide hz1
  have HZ2 := hide hz2
  clear F ha hb hi0 hz0 hz1 hz2
  go_enter Try.func6, Try.ntmps6
  go_wp2_with fail
  refine (strands_any nn _).mono ?_
  rintro e w1 ⟨T, hT1, hT5, rfl, hww⟩
  replace hww := hww.symm
  subst hww
  have HWM := hide (wfI (x := (T : Int) + 1) (by omega))
  go_wp2_with fail
  refine (around_any T 5 5 rfl ⟨hT1, hT5⟩ (by omega) A n c us B m d vs i k _ HA.out HB.out).mono ?_
  rintro e w2 ⟨P, pn, pc, Q, qn, qc, us2, vs2, xs, ys, rfl, hs1, hs2, hsd, hou, hov, hlu, hlv, hb⟩
  replace HA := hide (HA.out.below hb)
  replace HB := hide (HB.out.below hb)
  replace HW := hide (HW.out.trans (hb.mono HW.out.size))
  have SP := hide hs1
  have SQ := hide hs2
  have HTW : Hid (∀ j : Nat, 0 < j → j < T + 1 → TwoA (T + 1) (us2 ++ xs ++ vs2) (us2 ++ ys ++ vs2) (us2 ++ ys ++ vs2 ++ [(j : Int)])) := hide (fun j h1 h2 => two_a ⟨by omega, by omega⟩ hsd hou hov hlu hlv h1 h2)
  clear hb hs1 hs2 hsd hou hov hlu hlv
  clear HA HB
  generalize us2 ++ xs ++ vs2 = a at *
  generalize us2 ++ ys ++ vs2 = b at *
  obtain ⟨p, hp⟩ : ∃ p : Nat, k % (T : Int) = (p : Int) := ⟨(k % (T : Int)).toNat, by have := Int.emod_nonneg k (show (T : Int) ≠ 0 by omega); omega⟩
  have hpT : p < T := by have := Int.emod_lt_of_pos k (show (0 : Int) < (T : Int) by omega); omega
  have HPK := hide hp
  have HT := hide (HTW.out (p + 1) (by omega) (by omega))
  clear hp HTW
  obtain ⟨N, hN⟩ : ∃ N, T + 1 = N := ⟨_, rfl⟩
  rw [hN] at HT
  have hTi : (T : Int) + 1 = (N : Int) := by omega
  rw [hTi] at HWM ⊢
  have HNT := hide hN
  have HTI := hide hTi
  clear hN hTi
  obtain ⟨b2, hb2⟩ : ∃ q, b ++ [((p + 1 : Nat) : Int)] = q := ⟨_, rfl⟩
  rw [hb2] at HT
  have HB2 := hide hb2
  clear hb2
  obtain ⟨la, hla⟩ : ∃ q, longA N a = q := ⟨_, rfl⟩
  obtain ⟨lb, hlb⟩ : ∃ q, longA N b = q := ⟨_, rfl⟩
  obtain ⟨l2, hl2⟩ : ∃ q, longA N b2 = q := ⟨_, rfl⟩
  have EA : Hid (artE (N : Int) a = if la then 2 else 0) := hide (by unfold artE; rw [if_neg (by simp [HT.out.fa]), Int.toNat_natCast, hla])
  have EB : Hid (artE (N : Int) b = if lb then 2 else 0) := hide (by unfold artE; rw [if_neg (by simp [HT.out.fb]), Int.toNat_natCast, hlb])
  have EQ1 : Hid (eqE (N : Int) a b = if la || lb then 2 else 0) := hide (by unfold eqE; rw [EA.out, EB.out]; cases la <;> simp)
  have EQ2 : Hid (eqE (N : Int) a b2 = if la || l2 then 2 else 0) := hide (by unfold eqE; rw [EA.out, show artE (N : Int) b2 = if l2 then 2 else 0 from by unfold artE; rw [if_neg (by simp [HT.out.fc]), Int.toNat_natCast, hl2]]; cases la <;> simp)
  clear hla hlb hl2
  have two : ∀ q : Bool, (if q = true then (2 : Int) else 0) = 0 ∨ (if q = true then (2 : Int) else 0) = 2 := fun q => by cases q <;> simp
  have V1 := hide (two la)
  have V2 := hide (two lb)
  have V3 := hide (two (la || lb))
  have V4 := hide (two (la || l2))
  clear two
  generalize (if la = true then (2 : Int) else 0) = x1 at *
  generalize (if lb = true then (2 : Int) else 0) = x2 at *
  generalize (if (la || lb) = true then (2 : Int) else 0) = x3 at *
  generalize (if (la || l2) = true then (2 : Int) else 0) = x4 at *
  go_upto_region 3 with fail
  go_wp2_with fail
  refine (HF.out.images N P pn pc a _ SP.out HWM.out).mono ?_
  rintro e w3 ⟨X, xn, xc, rfl, hs, hb⟩
  replace HW := hide (HW.out.trans (hb.mono HW.out.size))
  replace SP := hide (SP.out.below hb)
  replace SQ := hide (SQ.out.below hb)
  rw [EA.out]
  have SX := hide hs
  clear hb hs
  go_upto_region 4 with fail
  go_wp2_with fail
  refine (HF.out.images N Q qn qc b _ SQ.out HWM.out).mono ?_
  rintro e w4 ⟨Y, yn, yc, rfl, hs, hb⟩
  replace HW := hide (HW.out.trans (hb.mono HW.out.size))
  replace SP := hide (SP.out.below hb)
  replace SQ := hide (SQ.out.below hb)
  replace SX := hide (SX.out.below hb)
  rw [EB.out]
  have SY := hide hs
  clear hb hs
  go_upto_region 5 with fail
  go_wp2_with fail
  refine (HF.out.equal N P pn pc a Q qn qc b _ SP.out SQ.out HWM.out).mono ?_
  rintro e w5 ⟨rfl, hb⟩
  replace HW := hide (HW.out.trans (hb.mono HW.out.size))
  replace SP := hide (SP.out.below hb)
  replace SQ := hide (SQ.out.below hb)
  replace SX := hide (SX.out.below hb)
  replace SY := hide (SY.out.below hb)
  rw [EQ1.out]
  clear hb
  obtain ⟨q1, hq1⟩ : ∃ q, eqA (N : Int) a b = q := ⟨_, rfl⟩
  rw [hq1]
  have HQ1 := hide hq1
  clear hq1
  go_upto_region 6 with fail
  have SP5 := SP
  have SQ5 := SQ
  have SX5 := SX
  have SY5 := SY
  have HW5 := HW
  go_wp2_with fail
  refine (clone_any Q qn qc b _ SQ.out.il SQ.out.nil).mono ?_
  rintro e w6 ⟨G, gn, gc, rfl, ho, hb⟩
  replace HW := hide (HW.out.trans (hb.mono HW.out.size))
  replace SP := hide (SP.out.below hb)
  replace SQ := hide (SQ.out.below hb)
  replace SX := hide (SX.out.below hb)
  replace SY := hide (SY.out.below hb)
  have HO := hide ho
  have hgl : gn + 1 ≤ 1000000 := by have h0 := ho.len; have h1 := bfault_zero HT.out.fb; omega
  have hgs := ho.small
  have hszc := hb.size
  have HB56 := hide hb
  clear hb ho
  have hTN : IntKind.i64.wrap ((N : Int) - 1) = (T : Int) := by rw [IntKind.wrap_i64]; have := HTI.out; omega
  have hTN2 : (N : Int) - 1 = (T : Int) := by have := HTI.out; omega
  go_wp2_with fail
  refine (mbelow_any k T _ (by omega) (by omega)).mono ?_
  rintro e wz ⟨rfl, hww⟩
  subst hww
  rw [HPK.out]
  have hp1 : (1 : Int) + (p : Int) = ((p + 1 : Nat) : Int) := by omega
  have hpw : IntKind.i64.wrap (1 + (p : Int)) = ((p + 1 : Nat) : Int) := by rw [IntKind.wrap_i64]; omega
  obtain ⟨p1, hp2⟩ : ∃ p1 : Nat, p + 1 = p1 := ⟨_, rfl⟩
  rw [hp2] at hp1 hpw HB2
  have HP1 := hide hp2
  clear hp2
  go_wp2_with (at_builtin; refine wpList_append_int _ rfl (.tmp 55) (.tmp 61) 22 rfl w5.heap.size i0 Try.underlying22 HI0.out HZ0.out HZ1.out HZ2.out G gn gc b rfl (HO.out.alloc _) (some ⟨w6.heap.size, 0, none⟩) 1 1 [(p1 : Int)] rfl (IL.lit w6 [(p1 : Int)] (by simp) rfl rfl) (by omega) (Nat.le_trans hszc (by simp)) ?_; intro A9 c9 w9 happ)
  have hlies : ∀ q, (Value.slice G (gn + 1) gc).ownBlock = some q → w5.heap.size ≤ q := fun q hq => (HO.out.lt q (by rw [ownBlock_len G gn (gn + 1) gc gc]; exact hq)).1
  have hb : Below w5.heap.size w5 w9 := (HB56.out.alloc hszc _).grown happ.grown (Nat.le_trans hszc (by simp)) hlies
  have ho := happ.own
  rw [HB2.out] at ho
  have S2 := hide ho.sl
  replace SP := hide (SP5.out.below hb)
  replace SQ := hide (SQ5.out.below hb)
  replace SX := hide (SX5.out.below hb)
  replace SY := hide (SY5.out.below hb)
  replace HW := hide (HW5.out.trans (hb.mono HW5.out.size))
  clear happ ho hb hlies HO HB56 hszc hgs hgl hTN hTN2 hpw hp1 SP5 SQ5 SX5 SY5 HW5
  go_wp2_with fail
  refine (HF.out.equal N P pn pc a A9 (gn + 1) c9 b2 _ SP.out S2.out HWM.out).mono ?_
  rintro e w7 ⟨rfl, hb⟩
  replace HW := hide (HW.out.trans (hb.mono HW.out.size))
  replace SP := hide (SP.out.below hb)
  replace SQ := hide (SQ.out.below hb)
  replace SX := hide (SX.out.below hb)
  replace SY := hide (SY.out.below hb)
  replace S2 := hide (S2.out.below hb)
  rw [EQ2.out]
  clear hb
  obtain ⟨q2, hq2⟩ : ∃ q, eqA (N : Int) a b2 = q := ⟨_, rfl⟩
  rw [hq2]
  have HQ2 := hide hq2
  clear hq2
  go_upto_region 7 with fail
  go_wp2_with fail
  refine (imaged_k HF.out _).mono ?_
  rintro e w8 ⟨rfl, hb⟩
  replace HW := hide (HW.out.trans (hb.mono HW.out.size))
  replace SP := hide (SP.out.below hb)
  replace SQ := hide (SQ.out.below hb)
  replace SX := hide (SX.out.below hb)
  replace SY := hide (SY.out.below hb)
  replace S2 := hide (S2.out.below hb)
  clear hb
  rcases V1.out with hx1 | hx1
  case inr =>
    subst hx1
    have y2 := V2.out
    have y3 := V3.out
    have y4 := V4.out
    go_wp2_with fail
    all_goals (go_ret; exact ⟨rfl, HW.out⟩)
  subst hx1
  rcases V2.out with hx2 | hx2
  case inr =>
    subst hx2
    have y3 := V3.out
    have y4 := V4.out
    go_wp2_with fail
    all_goals (go_ret; exact ⟨rfl, HW.out⟩)
  subst hx2
  rcases V3.out with hx3 | hx3
  case inr =>
    subst hx3
    have y4 := V4.out
    go_wp2_with fail
    all_goals (go_ret; exact ⟨rfl, HW.out⟩)
  subst hx3
  rcases V4.out with hx4 | hx4
  case inr =>
    subst hx4
    go_wp2_with fail
    all_goals (go_ret; exact ⟨rfl, HW.out⟩)
  subst hx4
  have e3 : Hid (eqA (N : Int) a b = true) := hide (by unfold eqA; rw [EQ1.out, Int.toNat_natCast, decide_eq_true HT.out.same]; rfl)
  rw [HQ1.out] at e3
  have e3 := e3.out
  subst e3
  have e4 : Hid (eqA (N : Int) a b2 = false) := hide (by unfold eqA; rw [EQ2.out, Int.toNat_natCast, decide_eq_false HT.out.other]; rfl)
  rw [HQ2.out] at e4
  have e4 := e4.out
  subst e4
  have HIA : Hid (artI (N : Int) a = imgs N b) := hide (by unfold artI; rw [if_pos EA.out, Int.toNat_natCast, HT.out.same])
  have HIB : Hid (artI (N : Int) b = imgs N b) := hide (by unfold artI; rw [if_pos EB.out, Int.toNat_natCast])
  rw [HIA.out] at SX
  rw [HIB.out] at SY
  have hxn : xn = N := by rw [← SX.out.len, imgs_length]
  subst hxn
  have hnn : ((xn : Int) == (xn : Int)) = true := by simp
  go_wp2_with fail
  refine (imaged_k HF.out _).mono ?_
  rintro e w9 ⟨rfl, hb⟩
  replace HW := hide (HW.out.trans (hb.mono HW.out.size))
  replace SP := hide (SP.out.below hb)
  replace SQ := hide (SQ.out.below hb)
  replace SX := hide (SX.out.below hb)
  replace SY := hide (SY.out.below hb)
  replace S2 := hide (S2.out.below hb)
  clear hb
  go_wp2_with fail
  refine (arelFunc_yes X Y xn yn xc yc _ _ SX.out.ill SY.out.ill).mono ?_
  rintro e w10 ⟨rfl, hb⟩
  replace HW := hide (HW.out.trans (hb.mono HW.out.size))
  replace SP := hide (SP.out.below hb)
  replace SQ := hide (SQ.out.below hb)
  replace SX := hide (SX.out.below hb)
  replace SY := hide (SY.out.below hb)
  replace S2 := hide (S2.out.below hb)
  clear hb
  go_wp2_with fail
  go_ret
  exact ⟨rfl, HW.out⟩
end Go.Proofs.Ytihpmdfeonphpaa
/- Package artin keeps its contracts; the laws of stage 9 under them. -/
namespace Go.Proofs.Ytihpmdfeonphpaa
theorem artinC_ok : ArtinC := artinC
end Go.Proofs.Ytihpmdfeonphpaa
