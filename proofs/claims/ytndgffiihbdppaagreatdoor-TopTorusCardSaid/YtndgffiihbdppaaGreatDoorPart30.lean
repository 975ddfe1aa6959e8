/- Several texts in one. -/
import Derived.Test.YtndgffiihbdppaaGreatDoorPart29
import Derived.Deep.LoopGhost
import Derived.Test.YtndgffiihbdppaaGreatDoorPart25
namespace Go.Proofs.YtndgffiihbdppaaGreatDoor
set_option linter.unusedVariables false
set_option linter.unusedSimpArgs false
open Go.RowKit

theorem Tl.pas_cons {N:Nat} {L:Nat → Nat} {J:Nat → Option Nat} (hD:Tl.Dg N L J) {i x:Nat} {is:List Nat} (hi:i < N) (hx:x < N):Tl.pas L (i :: is) x = ((Tl.pas L is x || x == i) || x == L i):=by
  rw [Bool.eq_iff_iff,Tl.pas_iff,Bool.or_eq_true,Bool.or_eq_true,Tl.pas_iff,List.mem_cons,List.mem_cons,beq_iff_eq,beq_iff_eq]
  have h:L x = i ↔ x = L i:=⟨fun e => by rw [← e,hD.linv x hx],fun e => by rw [e,hD.linv i hi]⟩
  rw [h]
  constructor
  · rintro ((h | h) | (h | h))
    · exact .inl (.inr h)
    · exact .inl (.inl (.inl h))
    · exact .inr h
    · exact .inl (.inl (.inr h))
  · rintro (((h | h) | h) | h)
    · exact .inl (.inr h)
    · exact .inr (.inr h)
    · exact .inl (.inl h)
    · exact .inr (.inl h)

set_option maxRecDepth 100000 in
set_option maxHeartbeats 8000000 in
theorem follow_any (base N lg lc jg jc sg:Nat) (ls js:List Int) (S:Nat → Bool) (L:Nat → Nat) (J:Nat → Option Nat) (s:Nat) (w:World) (hM:DiaM w base N lg lc jg jc sg ls js S) (hL:∀ i,i < N → ls.getD i 0 = (L i:Int)) (hJ:∀ i,i < N → js.getD i 0 = Tl.jv (J i)) (hD:Tl.Dg N L J) (hs:s < N) (hN:N ≤ 1000)
    (hst:J s = none ∨ (Tl.Cl N L J S ∧ S s = false ∧ ∀ x,x < N → J x = none → S x = true)) :
    Calls Tryz.prog 97 #[diaV N lg lc jg jc sg,.int .i64 s] w fun e w' => ∃ (E:Nat) (V:Nat → Bool),e = .returned (.int .i64 E) ∧ Tl.Fol N L J s E V ∧ DiaM w' base N lg lc jg jc sg ls js (fun x => S x || V x) ∧ w.grownBy w' (some sg):=by
  have HLL:=hide hL
  have HJJ:=hide hJ
  have HD:=hide hD
  have HST:=hide hst
  have hb1:Below w.heap.size w (w.alloc (.cells #[.slice (some ⟨lg,0,none⟩) N lc,.slice (some ⟨jg,0,none⟩) N jc,.slice (some ⟨sg,0,none⟩) N N] 123)):=(Below.refl _ _).alloc (Nat.le_refl _) _
  have HM1:=hide (hM.below hb1)
  have HBX:=hide (Blk.new w 123 #[.slice (some ⟨lg,0,none⟩) N lc,.slice (some ⟨jg,0,none⟩) N jc,.slice (some ⟨sg,0,none⟩) N N])
  have HG1:Hid (w.grownBy (w.alloc (.cells #[.slice (some ⟨lg,0,none⟩) N lc,.slice (some ⟨jg,0,none⟩) N jc,.slice (some ⟨sg,0,none⟩) N N] 123)) (some sg)):=hide (gb_below hb1)
  have hsgl:sg < w.heap.size:=by
    obtain ⟨g,e,_,h2⟩:=hM.seen.form (by omega)
    simp only [Option.some.injEq,Addr.mk.injEq] at e
    omega
  clear hL hJ hD hst hb1 hM
  go_enter Tryz.func97,Tryz.ntmps97
  go_upto_region 2 with fail
  generalize w.alloc (.cells #[.slice (some ⟨lg,0,none⟩) N lc,.slice (some ⟨jg,0,none⟩) N jc,.slice (some ⟨sg,0,none⟩) N N] 123) = w1 at *
  obtain ⟨bx,hbx⟩:∃ b,w.heap.size = b:=⟨_,rfl⟩
  rw [hbx] at HBX hsgl ⊢
  clear hbx
  go_loopg [5] N (fun gh iv wr => ∃ (i:Nat) (is:List Nat),iv = .int .i64 i ∧ Hid (Tl.Wk N L J s (i :: is)) ∧ Hid (gh = N - is.length) ∧ Hid (DiaM wr base N lg lc jg jc sg ls js (fun x => S x || Tl.pas L is x)) ∧ Hid (Blk wr bx 123 #[.slice (some ⟨lg,0,none⟩) N lc,.slice (some ⟨jg,0,none⟩) N jc,.slice (some ⟨sg,0,none⟩) N N]) ∧ Hid (w.grownBy wr (some sg)))
  case atStart => exact ⟨s,[],rfl,hide .one,hide (by simp),hide (HM1.out.congr fun i hi => by simp [Tl.pas]),HBX,HG1⟩
  case round =>
    clear HM1 HBX HG1
    obtain ⟨i,is,rfl,HW,HGH,HM,HBX,HG⟩:=hrel
    have hiN:=HW.out.lt HD.out hs i (by simp)
    have hlen:=HW.out.len HD.out hs
    rw [List.length_cons] at hlen
    have HLEN:=hide hlen
    obtain ⟨j,hj⟩:∃ j,L i = j:=⟨_,rfl⟩
    have HJI:=hide hj
    have hjN:j < N:=by rw [← hj];exact HD.out.llt i hiN
    have hcl:=HM.out.lines.cell hiN
    rw [HLL.out i hiN,hj] at hcl
    have hcj:=HM.out.joints.cell hjN
    rw [HJJ.out j hjN] at hcj
    have hs1:=HM.out.seen.cellAt (j:=i) (by omega)
    rw [bitsV_get _ hiN] at hs1
    have hM2:=HM.out.mark i
    have hs2:=hM2.seen.cellAt (j:=j) (by omega)
    rw [bitsV_get _ hjN] at hs2
    have hfz1:=HM.out.seen.frozen i
    have hfz2:=hM2.seen.frozen j
    have hM3:=hM2.mark j
    have hc0:=HBX.out.cell 0
    have hc1:=HBX.out.cell 1
    have hc2:=HBX.out.cell 2
    have hx2:=(HBX.out.far (p:=⟨sg,i,none⟩) (show bx ≠ sg by omega) (.bool true)).cell 2
    simp at hc0 hc1 hc2 hx2
    have HM3:Hid (DiaM ((wr.setCell ⟨sg,i,none⟩ (.bool true)).setCell ⟨sg,j,none⟩ (.bool true)) base N lg lc jg jc sg ls js (fun x => S x || Tl.pas L (i :: is) x)):=hide (hM3.congr fun x hx => by
      rw [Tl.pas_cons HD.out hiN hx,hj]
      simp only [Bool.or_assoc])
    have HBX3:=hide ((HBX.out.far (p:=⟨sg,i,none⟩) (show bx ≠ sg by omega) (.bool true)).far (p:=⟨sg,j,none⟩) (show bx ≠ sg by omega) (.bool true))
    have HG3:=hide (gb_trans (gb_trans HG.out (gb_set (i:=i) (v:=.bool true))) (gb_set (i:=j) (v:=.bool true)))
    generalize (S i || Tl.pas L is i) = o1 at hs1
    obtain ⟨o2,ho2⟩:∃ o,(S j || Tl.pas L is j || j == i) = o:=⟨_,rfl⟩
    have hs3:(wr.setCell ⟨sg,i,none⟩ (.bool true)).cell? ⟨sg,j,none⟩ = some (.bool o2):=by rw [← ho2];exact hs2
    clear hM2 hM3 hlen hj HG hs2 ho2
    go_upto_region 3 with fail
    go_region
    have HM5:=hide (HM3.out.below (Below.refl _ _).drew)
    have HBX5:=hide (HBX3.out.below (Below.refl _ _).drew HBX3.out.lt)
    have HG5:=hide (gb_trans HG3.out (gb_below (Below.refl _ _).drew))
    generalize (((wr.setCell ⟨sg,i,none⟩ (.bool true)).setCell ⟨sg,j,none⟩ (.bool true)).drew) = w5 at *
    clear HM3 HBX3 HG3 hs1 hs3 hfz1 hfz2 hc0 hc1 hc2 hx2 hcl hcj HM HBX
    have hcj:=HM5.out.joints.cell hjN
    rw [HJJ.out j hjN] at hcj
    have hc1:=HBX5.out.cell 1
    simp at hc1
    cases hJj:J j with
    | none =>
      rw [hJj] at hcj
      have hJL:J (L i) = none:=by rw [HJI.out];exact hJj
      have HF:Hid (Tl.Fol N L J s j (Tl.pas L (i :: is))):=hide (by
        rcases HST.out with h | ⟨h1,h2,h3⟩
        · have:=HW.out.fol_open HD.out hs hJL h
          rwa [HJI.out] at this
        · exfalso
          have h4:=HW.out.sub HD.out hs (h1.not HD.out) (by simp [h2]) j hjN (Tl.pas_iff.2 (.inr (by rw [← HJI.out,HD.out.linv i hiN];simp)))
          rw [h3 j hjN hJj] at h4
          cases h4)
      have hcj2:w5.cell? ⟨jg,j,none⟩ = some (.int .i64 (-1)):=hcj
      clear hJj hJL hcj
      go_wp2_with fail
      go_ret
      exact ⟨j,_,rfl,HF.out,HM5.out,HG5.out⟩
    | some k =>
      rw [hJj] at hcj
      have hcj2:w5.cell? ⟨jg,j,none⟩ = some (.int .i64 (k:Int)):=hcj
      have hkN:=HD.out.jlt _ _ hjN hJj
      have hk1:((k:Int) == -1) = false:=by rw [beq_eq_false_iff_ne];omega
      have HJL:Hid (J (L i) = some k):=hide (by rw [HJI.out];exact hJj)
      clear hJj hcj
      by_cases hks:k = s
      · subst hks
        have HF:=hide (HW.out.fol_closed HD.out hs HJL.out)
        have hkk:((k:Int) == (k:Int)) = true:=by simp
        go_wp2_with fail
        go_ret
        exact ⟨k,_,rfl,HF.out,HM5.out,HG5.out⟩
      · have HW2:=hide (HW.out.step HJL.out hks)
        have hkk:((k:Int) == (s:Int)) = false:=by rw [beq_eq_false_iff_ne];omega
        have hlen2:=HW2.out.len HD.out hs
        rw [List.length_cons,List.length_cons] at hlen2
        have HL2:=hide hlen2
        clear hks hlen2
        go_wp2_with fail
        go_roundg (N - (is.length + 1))
        case rel => exact ⟨k,i :: is,rfl,HW2,hide (by rw [List.length_cons]),HM5,HBX5,HG5⟩
        case measure => have:=HGH.out;have:=HL2.out;omega

set_option maxRecDepth 100000 in
set_option maxHeartbeats 8000000 in
theorem countLoops_any (base N lg lc jg jc sg M:Nat) (ls js:List Int) (S:Nat → Bool) (L:Nat → Nat) (J:Nat → Option Nat) (p:Nat → Nat) (lab:List Nat) (w:World) (hM:DiaM w base N lg lc jg jc sg ls js S) (hL:∀ i,i < N → ls.getD i 0 = (L i:Int)) (hJ:∀ i,i < N → js.getD i 0 = Tl.jv (J i)) (hB:Tl.Lb N L J M p lab) (hN:N ≤ 1000) (h0:0 < N) (hMM:M ≤ 1000)
    (hS:Tl.Cl N L J S) (hSo:∀ x,x < N → J x = none → S x = true) :
    Calls Tryz.prog 98 #[diaV N lg lc jg jc sg] w fun e w' => ∃ l:Nat,e = .returned (.int .i64 l) ∧ l + Tl.cntS p N lab S = Tl.cnt lab ∧ w.grownBy w' (some sg):=by
  have HFO:=hide (fun (S':Nat → Bool) (k:Nat) (w':World) (h1:DiaM w' base N lg lc jg jc sg ls js S') (hk:k < N) (h2:Tl.Cl N L J S') (h3:S' k = false) (h4:∀ x,x < N → J x = none → S' x = true) => follow_any base N lg lc jg jc sg ls js S' L J k w' h1 hL hJ hB.dg hk hN (.inr ⟨h2,h3,h4⟩))
  have HLB:=hide hB
  have HSO:=hide hSo
  have hb1:Below w.heap.size w (w.alloc (.cells #[.slice (some ⟨lg,0,none⟩) N lc,.slice (some ⟨jg,0,none⟩) N jc,.slice (some ⟨sg,0,none⟩) N N] 123)):=(Below.refl _ _).alloc (Nat.le_refl _) _
  have HM1:=hide (hM.below hb1)
  have HBX:=hide (Blk.new w 123 #[.slice (some ⟨lg,0,none⟩) N lc,.slice (some ⟨jg,0,none⟩) N jc,.slice (some ⟨sg,0,none⟩) N N])
  have HG1:Hid (w.grownBy (w.alloc (.cells #[.slice (some ⟨lg,0,none⟩) N lc,.slice (some ⟨jg,0,none⟩) N jc,.slice (some ⟨sg,0,none⟩) N N] 123)) (some sg)):=hide (gb_below hb1)
  have hsgl:sg < w.heap.size:=by
    obtain ⟨g,e,_,h2⟩:=hM.seen.form (by omega)
    simp only [Option.some.injEq,Addr.mk.injEq] at e
    omega
  have HCL:=hide hS
  have HML:Hid (∀ T:Nat → Bool,Tl.cntS p N lab T ≤ 1000):=hide (fun T => by unfold Tl.cntS;refine Nat.le_trans List.countP_le_length ?_;rw [List.length_range,hB.len];exact hMM)
  clear hL hJ hB hSo hb1 hM hS hMM
  go_enter Tryz.func98,Tryz.ntmps98
  go_upto_region 2 with fail
  generalize w.alloc (.cells #[.slice (some ⟨lg,0,none⟩) N lc,.slice (some ⟨jg,0,none⟩) N jc,.slice (some ⟨sg,0,none⟩) N N] 123) = w1 at *
  obtain ⟨bx,hbx⟩:∃ b,w.heap.size = b:=⟨_,rfl⟩
  rw [hbx] at HBX hsgl ⊢
  clear hbx
  have hc0:=HBX.out.cell 0
  simp at hc0
  go_wp2_with fail
  clear hc0
  go_loopw [3,8] (fun lv iv wr => ∃ (k l:Nat) (T:Nat → Bool),iv = .int .i64 k ∧ lv = .int .i64 l ∧ k ≤ N ∧ Hid (l + Tl.cntS p N lab S = Tl.cntS p N lab T) ∧ Hid (DiaM wr base N lg lc jg jc sg ls js T) ∧ Hid (Tl.Cl N L J T) ∧ Hid (∀ x,S x = true → T x = true) ∧ Hid (∀ x,x < k → T x = true) ∧ Hid (Blk wr bx 123 #[.slice (some ⟨lg,0,none⟩) N lc,.slice (some ⟨jg,0,none⟩) N jc,.slice (some ⟨sg,0,none⟩) N N]) ∧ Hid (w.grownBy wr (some sg))) (fun _ iv _ => N - (intOf iv).toNat)
  case atStart => exact ⟨0,0,S,rfl,rfl,Nat.zero_le _,hide (Nat.zero_add _),HM1,HCL,hide (fun _ h => h),hide (fun x hx => absurd hx (by omega)),HBX,HG1⟩
  case round =>
    clear HM1 HBX HG1 HCL
    obtain ⟨k,l,T,rfl,rfl,hk,HC,HM,HCL,HST,HK,HBX,HG⟩:=hrel
    by_cases hkN:k < N
    · have hc2:=HBX.out.cell 2
      have hc0:=HBX.out.cell 0
      have hc1:=HBX.out.cell 1
      simp at hc0 hc1 hc2
      have hs1:=HM.out.seen.cellAt (j:=k) (by omega)
      rw [bitsV_get _ hkN] at hs1
      cases hT:T k with
      | true =>
        rw [hT] at hs1
        have HK2:Hid (∀ x,x < k + 1 → T x = true):=hide (fun x hx => by
          by_cases e:x = k
          · rw [e];exact hT
          · exact HK.out x (by omega))
        clear hT hc0 hc1
        go_wp2_with fail
        go_roundw
        case rel => exact ⟨k + 1,l,T,by go_num,rfl,by omega,HC,HM,HCL,HST,HK2,HBX,HG⟩
        case measure => simp [intOf];omega
      | false =>
        rw [hT] at hs1
        have HF:=hide (HFO.out T k wr HM.out hkN HCL.out hT (fun x hx h => HST.out x (HSO.out x hx h)))
        have HT:=hide hT
        clear hT
        go_wp2_with fail
        refine HF.out.mono ?_
        rintro e w3 ⟨E,V,rfl,hfo,hm3,hg3⟩
        have HM3:=hide hm3
        have HBX3:=hide (HBX.out.grown hg3 (fun e => by injection e with e;omega))
        have HG3:=hide (gb_trans HG.out hg3)
        have HCL3:=hide (HCL.out.or hfo.cl)
        have HC3:Hid (l + 1 + Tl.cntS p N lab S = Tl.cntS p N lab (fun x => T x || V x)):=hide (by
          rw [HLB.out.cntS_step HCL.out hkN HT.out hfo,← HC.out];omega)
        have HK3:Hid (∀ x,x < k + 1 → (T x || V x) = true):=hide (fun x hx => by
          by_cases e:x = k
          · rw [e,hfo.st,Bool.or_true]
          · rw [HK.out x (by omega),Bool.true_or])
        have hl:l + 1 ≤ 1000:=by have h1:=HC3.out;have h2:=HML.out (fun x => T x || V x);omega
        have HST3:Hid (∀ x,S x = true → (T x || V x) = true):=hide (fun x h => by rw [HST.out x h,Bool.true_or])
        have hwl:IntKind.i64.wrap ((l:Int) + 1) = (l:Int) + 1:=by rw [IntKind.wrap_i64];omega
        clear hfo hm3 hg3 HF HM HBX HG HCL HC HK HST HT hs1 hc0 hc1 hc2
        go_wp2_with fail
        go_roundw
        case rel => exact ⟨k + 1,l + 1,_,by go_num,by go_num,by omega,HC3,HM3,HCL3,HST3,HK3,HBX3,HG3⟩
        case measure => simp [intOf];omega
    · have hkE:k = N:=by omega
      have HE:Hid (l + Tl.cntS p N lab S = Tl.cnt lab):=hide (by
        rw [HC.out]
        exact HLB.out.cntS_all (fun i hi => HK.out i (by omega)))
      clear hkE
      go_wp2_with fail
      go_ret
      exact ⟨l,rfl,HE.out,HG.out⟩
end Go.Proofs.YtndgffiihbdppaaGreatDoor
namespace Go.Proofs.YtndgffiihbdppaaGreatDoor
set_option linter.unusedVariables false
set_option linter.unusedSimpArgs false

/-! ### matchings in numbers from 1 on, 0 where a place is open -/
def Tl.openN:List Nat → Nat → Option Nat
  | [],_ => none
  | x :: l,k => cond (Nat.beq x 0) (some k) (Tl.openN l (k + 1))
def Tl.setN:List Nat → Nat → Nat → List Nat
  | [],_,_ => []
  | _ :: l,0,x => x :: l
  | a :: l,k + 1,x => a :: Tl.setN l k x
def Tl.partsL (i:Nat) (q:Nat → List (List Nat)):List Nat → Nat → List (List Nat)
  | [],_ => []
  | c :: l,k => cond (Nat.beq c 0) (cond (Nat.blt i k) (q k ++ Tl.partsL i q l (k + 1)) (Tl.partsL i q l (k + 1))) (Tl.partsL i q l (k + 1))
def Tl.fillN:Nat → List Nat → List (List Nat)
  | 0,_ => []
  | f + 1,d => match Tl.openN d 0 with
    | none => [d]
    | some i => Tl.partsL i (fun k => Tl.forceL (Tl.setN (Tl.setN d i (k + 1)) k (i + 1)) fun d' => Tl.fillN f d') d 0
def Tl.bnd (n:Nat):List Nat:=(List.range (2 * n)).map (Tl.posF n)
def Tl.stE (c:Nat):List Nat → Nat → Bool
  | [],st => Nat.beq st 0
  | p :: ps,st => Tl.forceN ((c >>> (4 * p)) % 16) fun y => cond (Nat.beq (st % 16) y) (Tl.stE c ps (st / 16)) (Tl.forceN (st * 16 + (p + 1)) fun st' => Tl.stE c ps st')
def Tl.okE (ps:List Nat) (d:List Nat):Bool:=Tl.forceN (Tl.enc d 1) fun c => Tl.stE c ps 0

set_option maxRecDepth 100000 in
theorem fill_low:(List.range 6).all (fun n => n == 0 || ((Tl.fillN (n + 1) (List.replicate (2 * n) 0)).filter (Tl.okE (Tl.bnd n)) == (Tl.plan n).map (List.map (· + 1)))) = true:=by decide +kernel
set_option maxRecDepth 100000 in
theorem fill_6_1:(Tl.fillN 6 [2,1,0,0,0,0,0,0,0,0,0,0]).filter (Tl.okE [0,1,2,3,4,5,11,10,9,8,7,6]) = (((Tl.plan 6).drop 0).take 42).map (List.map (· + 1)):=by decide +kernel
set_option maxRecDepth 100000 in
theorem fill_6_2:(Tl.fillN 6 [3,0,1,0,0,0,0,0,0,0,0,0]).filter (Tl.okE [0,1,2,3,4,5,11,10,9,8,7,6]) = (((Tl.plan 6).drop 42).take 0).map (List.map (· + 1)):=by decide +kernel
set_option maxRecDepth 100000 in
theorem fill_6_3:(Tl.fillN 6 [4,0,0,1,0,0,0,0,0,0,0,0]).filter (Tl.okE [0,1,2,3,4,5,11,10,9,8,7,6]) = (((Tl.plan 6).drop 42).take 14).map (List.map (· + 1)):=by decide +kernel
set_option maxRecDepth 100000 in
theorem fill_6_4:(Tl.fillN 6 [5,0,0,0,1,0,0,0,0,0,0,0]).filter (Tl.okE [0,1,2,3,4,5,11,10,9,8,7,6]) = (((Tl.plan 6).drop 56).take 0).map (List.map (· + 1)):=by decide +kernel
set_option maxRecDepth 100000 in
theorem fill_6_5:(Tl.fillN 6 [6,0,0,0,0,1,0,0,0,0,0,0]).filter (Tl.okE [0,1,2,3,4,5,11,10,9,8,7,6]) = (((Tl.plan 6).drop 56).take 10).map (List.map (· + 1)):=by decide +kernel
set_option maxRecDepth 100000 in
theorem fill_6_6:(Tl.fillN 6 [7,0,0,0,0,0,1,0,0,0,0,0]).filter (Tl.okE [0,1,2,3,4,5,11,10,9,8,7,6]) = (((Tl.plan 6).drop 66).take 42).map (List.map (· + 1)):=by decide +kernel
set_option maxRecDepth 100000 in
theorem fill_6_7:(Tl.fillN 6 [8,0,0,0,0,0,0,1,0,0,0,0]).filter (Tl.okE [0,1,2,3,4,5,11,10,9,8,7,6]) = (((Tl.plan 6).drop 108).take 0).map (List.map (· + 1)):=by decide +kernel
set_option maxRecDepth 100000 in
theorem fill_6_8:(Tl.fillN 6 [9,0,0,0,0,0,0,0,1,0,0,0]).filter (Tl.okE [0,1,2,3,4,5,11,10,9,8,7,6]) = (((Tl.plan 6).drop 108).take 14).map (List.map (· + 1)):=by decide +kernel
set_option maxRecDepth 100000 in
theorem fill_6_9:(Tl.fillN 6 [10,0,0,0,0,0,0,0,0,1,0,0]).filter (Tl.okE [0,1,2,3,4,5,11,10,9,8,7,6]) = (((Tl.plan 6).drop 122).take 0).map (List.map (· + 1)):=by decide +kernel
set_option maxRecDepth 100000 in
theorem fill_6_10:(Tl.fillN 6 [11,0,0,0,0,0,0,0,0,0,1,0]).filter (Tl.okE [0,1,2,3,4,5,11,10,9,8,7,6]) = (((Tl.plan 6).drop 122).take 10).map (List.map (· + 1)):=by decide +kernel
set_option maxRecDepth 100000 in
theorem fill_6_11:(Tl.fillN 6 [12,0,0,0,0,0,0,0,0,0,0,1]).filter (Tl.okE [0,1,2,3,4,5,11,10,9,8,7,6]) = (((Tl.plan 6).drop 132).take 0).map (List.map (· + 1)):=by decide +kernel
theorem parts_top (q:Nat → List (List Nat)):Tl.partsL 0 q [0,0,0,0,0,0,0,0,0,0,0,0] 0 = q 1 ++ (q 2 ++ (q 3 ++ (q 4 ++ (q 5 ++ (q 6 ++ (q 7 ++ (q 8 ++ (q 9 ++ (q 10 ++ (q 11 ++ [])))))))))):=rfl
theorem fill_6:(Tl.fillN 7 (List.replicate 12 0)).filter (Tl.okE (Tl.bnd 6)) = (Tl.plan 6).map (List.map (· + 1)):=by
  have e:Tl.fillN 7 (List.replicate 12 0) = Tl.partsL 0 (fun k => Tl.fillN 6 (Tl.setN (Tl.setN [0,0,0,0,0,0,0,0,0,0,0,0] 0 (k + 1)) k 1)) [0,0,0,0,0,0,0,0,0,0,0,0] 0:=by
    show Tl.partsL 0 (fun k => Tl.forceL (Tl.setN (Tl.setN [0,0,0,0,0,0,0,0,0,0,0,0] 0 (k + 1)) k 1) fun d' => Tl.fillN 6 d') [0,0,0,0,0,0,0,0,0,0,0,0] 0 = _
    simp only [Tl.forceL_eq]
  have hb:Tl.bnd 6 = [0,1,2,3,4,5,11,10,9,8,7,6]:=by decide
  have cut:∀ (a:Nat) (b:Nat) (l:List (List Nat)),l.drop a = (l.drop a).take b ++ l.drop (a + b):=fun a b l => by rw [← List.drop_drop,List.take_append_drop]
  rw [e,parts_top,hb]
  simp only [List.filter_append,List.filter_nil]
  conv => rhs;rw [show Tl.plan 6 = (Tl.plan 6).drop 0 from rfl,cut 0 42 (Tl.plan 6),cut 42 0 (Tl.plan 6),cut 42 14 (Tl.plan 6),cut 56 0 (Tl.plan 6),cut 56 10 (Tl.plan 6),cut 66 42 (Tl.plan 6),cut 108 0 (Tl.plan 6),cut 108 14 (Tl.plan 6),cut 122 0 (Tl.plan 6),cut 122 10 (Tl.plan 6),cut 132 0 (Tl.plan 6)]
  simp only [List.map_append]
  refine congr (congrArg HAppend.hAppend fill_6_1) ?_
  refine congr (congrArg HAppend.hAppend fill_6_2) ?_
  refine congr (congrArg HAppend.hAppend fill_6_3) ?_
  refine congr (congrArg HAppend.hAppend fill_6_4) ?_
  refine congr (congrArg HAppend.hAppend fill_6_5) ?_
  refine congr (congrArg HAppend.hAppend fill_6_6) ?_
  refine congr (congrArg HAppend.hAppend fill_6_7) ?_
  refine congr (congrArg HAppend.hAppend fill_6_8) ?_
  refine congr (congrArg HAppend.hAppend fill_6_9) ?_
  refine congr (congrArg HAppend.hAppend fill_6_10) ?_
  refine congr (congrArg HAppend.hAppend fill_6_11) ?_
  rfl
end Go.Proofs.YtndgffiihbdppaaGreatDoor
namespace Go.Proofs.YtndgffiihbdppaaGreatDoor
set_option linter.unusedVariables false
set_option linter.unusedSimpArgs false

theorem setN_eq:∀ (l:List Nat) (k x:Nat),Tl.setN l k x = l.set k x
  | [],_,_ => by simp [Tl.setN]
  | a :: l,0,x => by simp [Tl.setN]
  | a :: l,k + 1,x => by simp [Tl.setN,setN_eq l k x]
theorem openN_none:∀ {l:List Nat} {k:Nat},Tl.openN l k = none → ∀ j,j < l.length → l.getD j 0 ≠ 0
  | x :: l,k,h,j,hj => by
    rw [Tl.openN] at h
    cases e:Nat.beq x 0
    · rw [e] at h
      match j with
      | 0 => exact fun e2 => by rw [show (x :: l).getD 0 0 = x from rfl] at e2;rw [e2] at e;exact absurd e (by decide)
      | j + 1 => rw [List.getD_cons_succ];exact openN_none h j (by simpa using hj)
    · rw [e] at h;cases h
theorem openN_some:∀ {l:List Nat} {k i:Nat},Tl.openN l k = some i → k ≤ i ∧ i - k < l.length ∧ l.getD (i - k) 0 = 0 ∧ ∀ j,j < i - k → l.getD j 0 ≠ 0
  | [],k,i,h => by cases h
  | x :: l,k,i,h => by
    rw [Tl.openN] at h
    cases e:Nat.beq x 0
    · rw [e] at h
      obtain ⟨h1,h2,h3,h4⟩:=openN_some (l:=l) h
      have hx:x ≠ 0:=fun e2 => by rw [e2] at e;exact absurd e (by decide)
      refine ⟨by omega,by simp;omega,?_,?_⟩
      · rw [show i - k = (i - (k + 1)) + 1 by omega,List.getD_cons_succ];exact h3
      · intro j hj
        match j with
        | 0 => exact hx
        | j + 1 => rw [List.getD_cons_succ];exact h4 j (by omega)
    · rw [e] at h
      injection h with h
      subst h
      exact ⟨Nat.le_refl _,by simp,by rw [Nat.sub_self];exact Nat.eq_of_beq_eq_true e,fun j hj => by omega⟩
theorem mem_parts {i:Nat} {q:Nat → List (List Nat)} {x:List Nat}:∀ {l:List Nat} {k:Nat},x ∈ Tl.partsL i q l k ↔ ∃ j,j < l.length ∧ l.getD j 0 = 0 ∧ i < k + j ∧ x ∈ q (k + j)
  | [],k => by simp [Tl.partsL]
  | c :: l,k => by
    have ih:=mem_parts (i:=i) (q:=q) (x:=x) (l:=l) (k:=k + 1)
    have hs:(∃ j,j < (c :: l).length ∧ (c :: l).getD j 0 = 0 ∧ i < k + j ∧ x ∈ q (k + j)) ↔ (c = 0 ∧ i < k ∧ x ∈ q k) ∨ (∃ j,j < l.length ∧ l.getD j 0 = 0 ∧ i < k + 1 + j ∧ x ∈ q (k + 1 + j)):=by
      constructor
      · rintro ⟨j,h1,h2,h3,h4⟩
        match j with
        | 0 => exact .inl ⟨h2,h3,h4⟩
        | j + 1 => exact .inr ⟨j,by simpa using h1,by simpa using h2,by omega,by rw [show k + 1 + j = k + (j + 1) by omega];exact h4⟩
      · rintro (⟨h1,h2,h3⟩ | ⟨j,h1,h2,h3,h4⟩)
        · exact ⟨0,by simp,h1,h2,h3⟩
        · exact ⟨j + 1,by simpa using h1,by simpa using h2,by omega,by rw [show k + (j + 1) = k + 1 + j by omega];exact h4⟩
    rw [hs,← ih,Tl.partsL]
    by_cases e:c = 0
    · subst e
      by_cases h:i < k
      · have hb:Nat.blt i k = true:=by have h5:i + 1 ≤ k:=h;simpa [Nat.blt] using h5
        rw [hb]
        simp [h]
      · have hb:Nat.blt i k = false:=Bool.eq_false_iff.2 fun hb => h (Nat.le_of_ble_eq_true hb)
        rw [hb]
        simp [h]
    · have hb:Nat.beq c 0 = false:=Bool.eq_false_iff.2 fun h => e (Nat.eq_of_beq_eq_true h)
      rw [hb]
      simp [e]
structure Inv (N:Nat) (D:List Nat):Prop where
  len:D.length = N
  at_:∀ i,i < N → 1 ≤ D.getD i 0 ∧ D.getD i 0 ≤ N ∧ D.getD i 0 ≠ i + 1 ∧ D.getD (D.getD i 0 - 1) 0 = i + 1
structure Prt (N:Nat) (D d:List Nat):Prop where
  len:d.length = N
  at_:∀ i,i < N → d.getD i 0 = 0 ∨ d.getD i 0 = D.getD i 0
  both:∀ i,i < N → d.getD i 0 = 0 → d.getD (D.getD i 0 - 1) 0 = 0
theorem fill_step {d:List Nat} {f i:Nat} (h:Tl.openN d 0 = some i) (x:List Nat):x ∈ Tl.fillN (f + 1) d ↔ ∃ k,k < d.length ∧ d.getD k 0 = 0 ∧ i < k ∧ x ∈ Tl.fillN f ((d.set i (k + 1)).set k (i + 1)):=by
  rw [Tl.fillN,h]
  simp only [mem_parts,Tl.forceL_eq,setN_eq,Nat.zero_add]
theorem fill_none {d:List Nat} {f:Nat} (h:Tl.openN d 0 = none):Tl.fillN (f + 1) d = [d]:=by rw [Tl.fillN,h]
theorem zeros_set {d:List Nat} {i k x y:Nat} (hi:i < d.length) (hk:k < d.length) (hik:i ≠ k) (h1:d.getD i 0 = 0) (h2:d.getD k 0 = 0) (hx:x ≠ 0) (hy:y ≠ 0):((d.set i x).set k y).count 0 + 2 = d.count 0:=by
  have c1:=List.count_set (l:=d) (i:=i) (a:=x) (b:=0) hi
  have c2:=List.count_set (l:=d.set i x) (i:=k) (a:=y) (b:=0) (by simpa using hk)
  have e1:d[i] = 0:=by simpa [List.getD,hi] using h1
  have e2:(d.set i x)[k]'(by simpa using hk) = 0:=by
    rw [List.getElem_set_ne hik]
    simpa [List.getD,hk] using h2
  rw [e1] at c1
  rw [e2,c1] at c2
  have p:0 < d.count 0:=List.count_pos_iff.2 (by rw [← e1];exact List.getElem_mem hi)
  have q:0 < (d.set i x).count 0:=List.count_pos_iff.2 (by rw [← e2];exact List.getElem_mem _)
  rw [c1] at q
  simp [hx,hy] at c1 c2 q
  omega
theorem set2_getD {d:List Nat} {i k x y j:Nat} (hj:j < d.length):((d.set i x).set k y).getD j 0 = if k = j then y else if i = j then x else d.getD j 0:=by
  rw [getD_setN (by simpa using hj),getD_setN hj]
theorem fill_mem {N:Nat} {D:List Nat} (hD:Inv N D):∀ (f:Nat) {d:List Nat},Prt N D d → d.count 0 < 2 * f → D ∈ Tl.fillN f d
  | 0,d,_,h => by omega
  | f + 1, d, hp, hc => by
    cases ho:Tl.openN d 0 with
    | none =>
      rw [fill_none ho]
      have:D = d:=by
        refine List.ext_getElem (by rw [hD.len,hp.len]) fun j h1 h2 => ?_
        have hj:j < N:=by rw [← hD.len];exact h1
        have h3:=openN_none ho j h2
        have h4:=(hp.at_ j hj).resolve_left h3
        simpa [List.getD,h1,h2] using h4.symm
      simp [this]
    | some i =>
      obtain ⟨_,h2,h3,h4⟩:=openN_some ho
      rw [Nat.sub_zero] at h2 h3 h4
      have hi:i < N:=by rw [← hp.len];exact h2
      obtain ⟨a1,a2,a3,a4⟩:=hD.at_ i hi
      obtain ⟨k,hk⟩:∃ k,D.getD i 0 = k + 1:=⟨D.getD i 0 - 1,by omega⟩
      rw [hk] at a2 a3 a4
      rw [Nat.add_sub_cancel] at a4
      have hkN:k < N:=by omega
      have hk0:=hp.both i hi h3
      rw [hk,Nat.add_sub_cancel] at hk0
      have hik:i < k:=by
        rcases Nat.lt_trichotomy i k with h | h | h
        · exact h
        · omega
        · exact absurd hk0 (h4 k h)
      rw [fill_step ho]
      refine ⟨k,by rw [hp.len];exact hkN,hk0,hik,fill_mem hD f ⟨by simp [hp.len],fun j hj => ?_,fun j hj => ?_⟩ ?_⟩
      · rw [set2_getD (by rw [hp.len];exact hj)]
        by_cases e:k = j
        · rw [if_pos e,← e,a4];exact .inr rfl
        · rw [if_neg e]
          by_cases e2:i = j
          · rw [if_pos e2,← e2,hk];exact .inr rfl
          · rw [if_neg e2];exact hp.at_ j hj
      · obtain ⟨b1,b2,b3,b4⟩:=hD.at_ j hj
        rw [set2_getD (by rw [hp.len];exact hj),set2_getD (by rw [hp.len];omega)]
        intro h0
        by_cases e:k = j
        · rw [if_pos e] at h0;omega
        · rw [if_neg e] at h0
          by_cases e2:i = j
          · rw [if_pos e2] at h0;omega
          · rw [if_neg e2] at h0
            have n1:k ≠ D.getD j 0 - 1:=fun e3 => by
              rw [← e3,a4] at b4
              omega
            have n2:i ≠ D.getD j 0 - 1:=fun e3 => by
              rw [← e3,hk] at b4
              omega
            rw [if_neg n1,if_neg n2]
            exact hp.both j hj h0
      · have:=zeros_set (d:=d) (i:=i) (k:=k) (x:=k + 1) (y:=i + 1) h2 (by rw [hp.len];exact hkN) (by omega) h3 hk0 (by omega) (by omega)
        omega

def toI (D:List Nat):List Int:=D.map fun (x:Nat) => (x:Int) - 1
theorem toI_length (D:List Nat):(toI D).length = D.length:=by simp [toI]
theorem toI_getD {D:List Nat} {i:Nat} (hi:i < D.length):(toI D).getD i 0 = (D.getD i 0:Int) - 1:=by simp [toI,List.getD,hi]
theorem toI_succ (x:List Nat):toI (x.map (· + 1)) = zs x:=by
  unfold toI zs
  rw [List.map_map]
  refine List.map_congr_left fun a _ => ?_
  simp
def encS (st:List Nat):Nat:=st.foldl (fun s p => s * 16 + (p + 1)) 0
theorem encS_snoc (st:List Nat) (q:Nat):encS (st ++ [q]) = encS st * 16 + (q + 1):=by unfold encS;rw [List.foldl_append];rfl
theorem snocN (st:List Nat):st = [] ∨ ∃ st' q,st = st' ++ [q]:=by
  by_cases h:st = []
  · exact .inl h
  · exact .inr ⟨st.dropLast,st.getLast h,(List.dropLast_concat_getLast h).symm⟩
theorem encS_zero {st:List Nat}:encS st = 0 ↔ st = []:=by
  rcases snocN st with rfl | ⟨st',q,rfl⟩
  · simp [encS]
  · rw [encS_snoc];simp
theorem stE_spec {N:Nat} {D:List Nat} (hl:D.length = N) (h16:∀ x ∈ D,x < 16) (h1:∀ i,i < N → 1 ≤ D.getD i 0):∀ (ps:List Nat) (st:List Nat),(∀ p ∈ ps,p < N ∧ p < 15) → (∀ p ∈ st,p < 15) →
    (Tl.stE (Tl.enc D 1) ps (encS st) = true ↔ ps.foldl (Tl.stF (toI D)) (zs st) = [])
  | [],st,_,_ => by
    show Nat.beq (encS st) 0 = true ↔ zs st = []
    rw [Nat.beq_eq,encS_zero]
    unfold zs
    rw [List.map_eq_nil_iff]
  | p :: ps,st,hp,hst => by
    obtain ⟨hpN,hp15⟩:=hp p (by simp)
    have hdig:=Tl.enc_dig h16 p (by rw [hl];exact hpN)
    have hy:=h1 p hpN
    have hget:=toI_getD (D:=D) (i:=p) (by rw [hl];exact hpN)
    have push:Tl.stE (Tl.enc D 1) ps (encS st * 16 + (p + 1)) = true ↔ ps.foldl (Tl.stF (toI D)) (zs st ++ [(p:Int)]) = []:=by
      have:=stE_spec hl h16 h1 ps (st ++ [p]) (fun q hq => hp q (by simp [hq])) (fun q hq => (List.mem_append.1 hq).elim (hst q) (fun h => by rw [List.mem_singleton.1 h];exact hp15))
      rw [encS_snoc] at this
      have e:zs (st ++ [p]) = zs st ++ [(p:Int)]:=by simp [zs]
      rw [e] at this
      exact this
    rw [Tl.stE,Tl.forceN_eq,Tl.forceN_eq,hdig,List.foldl_cons]
    rcases snocN st with rfl | ⟨st',q,rfl⟩
    · have hb:Nat.beq (encS [] % 16) (D.getD p 0) = false:=Bool.eq_false_iff.2 fun h => by
        have h5:=Nat.eq_of_beq_eq_true h
        rw [show encS [] % 16 = 0 from rfl] at h5
        omega
      rw [hb]
      have hF:Tl.stF (toI D) (zs []) p = zs [] ++ [(p:Int)]:=by unfold Tl.stF;rw [if_neg (fun h => absurd h.1 (by simp [zs]))]
      rw [hF]
      exact push
    · have hq15:=hst q (by simp)
      have hm:encS (st' ++ [q]) % 16 = q + 1:=by rw [encS_snoc];omega
      have hd:encS (st' ++ [q]) / 16 = encS st':=by rw [encS_snoc];omega
      have hlen:(zs (st' ++ [q])).length = st'.length + 1:=by rw [zs_length];simp
      have hlast:(zs (st' ++ [q])).getD ((zs (st' ++ [q])).length - 1) 0 = (q:Int):=by
        rw [zs_getD,hlen,Nat.add_sub_cancel]
        simp [List.getD]
      rw [hm,hd]
      by_cases e:q + 1 = D.getD p 0
      · have hb:Nat.beq (q + 1) (D.getD p 0) = true:=by rw [e];exact Nat.beq_refl _
        rw [hb]
        have hF:Tl.stF (toI D) (zs (st' ++ [q])) p = zs st':=by
          unfold Tl.stF
          rw [if_pos ⟨by rw [hlen];omega,by rw [hlast,hget];omega⟩,hlen,Nat.add_sub_cancel,zs_take]
          simp
        rw [hF]
        exact stE_spec hl h16 h1 ps st' (fun q hq => hp q (by simp [hq])) (fun q hq => hst q (by simp [hq]))
      · have hb:Nat.beq (q + 1) (D.getD p 0) = false:=Bool.eq_false_iff.2 fun h => e (Nat.eq_of_beq_eq_true h)
        rw [hb]
        have hF:Tl.stF (toI D) (zs (st' ++ [q])) p = zs (st' ++ [q]) ++ [(p:Int)]:=by
          unfold Tl.stF
          rw [if_neg (fun h => e (by have:=h.2;rw [hlast,hget] at this;omega))]
        rw [hF]
        exact push
theorem posF_lt {n i:Nat} (h:i < 2 * n):Tl.posF n i < 2 * n:=by unfold Tl.posF;split <;> omega
theorem okE_spec {n:Nat} (hn:n ≤ 6) {D:List Nat} (h:Inv (2 * n) D):Tl.okE (Tl.bnd n) D = true ↔ Tl.stsF n (toI D) (2 * n) = []:=by
  have hb:∀ x ∈ D,x < 16:=fun x hx => by
    obtain ⟨i,hi,rfl⟩:=List.mem_iff_getElem.1 hx
    have:=(h.at_ i (by rw [← h.len];exact hi)).2.1
    rw [show D.getD i 0 = D[i] by simp [List.getD,hi]] at this
    omega
  have hs:=stE_spec h.len hb (fun i hi => (h.at_ i hi).1) (Tl.bnd n) [] (fun p hp => by
    unfold Tl.bnd at hp
    obtain ⟨i,hi,rfl⟩:=List.mem_map.1 hp
    have:=posF_lt (List.mem_range.1 hi)
    exact ⟨this,by omega⟩) (fun p hp => by cases hp)
  unfold Tl.okE
  rw [Tl.forceN_eq]
  have e:(Tl.bnd n).foldl (Tl.stF (toI D)) (zs []) = Tl.stsF n (toI D) (2 * n):=by
    unfold Tl.bnd Tl.stsF
    rw [List.foldl_map]
    rfl
  rw [e] at hs
  exact hs
theorem bdF_inv {n:Nat} {D:List Nat} (h:Inv (2 * n) D) {i:Nat} (hi:i < 2 * n):Tl.bdF n (toI D) i = false:=by
  obtain ⟨a1,a2,a3,a4⟩:=h.at_ i hi
  unfold Tl.bdF
  rw [toI_getD (by rw [h.len];exact hi)]
  have e:((D.getD i 0:Int) - 1).toNat = D.getD i 0 - 1:=by omega
  rw [e,toI_getD (by rw [h.len];omega),a4]
  rw [decide_eq_false (by omega),decide_eq_false (by omega),decide_eq_false (by omega),decide_eq_false (by omega)]
  rfl
theorem mtF_inv {n:Nat} (h0:1 ≤ n) (hn:n ≤ 6) {D:List Nat} (h:Inv (2 * n) D):Tl.mtF n (toI D) = 0 ↔ Tl.okE (Tl.bnd n) D = true:=by
  rw [okE_spec hn h]
  unfold Tl.mtF
  rw [if_neg (by omega),Int.toNat_natCast,if_neg (by rw [toI_length,h.len];simp),if_neg]
  · by_cases e:Tl.stsF n (toI D) (2 * n) = []
    · rw [if_neg (fun k => k e)];exact ⟨fun _ => e,fun _ => rfl⟩
    · rw [if_pos e];exact ⟨fun k => absurd k (by decide),fun k => absurd k e⟩
  · rw [Tl.bdF_all (fun j hj => bdF_inv h (by rw [toI_length,h.len] at hj;exact hj))]
    simp
theorem mtF_zero {m:Int} {d:List Int} (h:Tl.mtF m d = 0):∃ n:Nat,m = (n:Int) ∧ 1 ≤ n ∧ n ≤ 6 ∧ ∃ D,Inv (2 * n) D ∧ d = toI D:=by
  unfold Tl.mtF at h
  by_cases h1:m < 1 ∨ 6 < m
  · rw [if_pos h1] at h;cases h
  rw [if_neg h1] at h
  obtain ⟨n,rfl⟩:∃ n:Nat,m = (n:Int):=⟨m.toNat,by omega⟩
  rw [Int.toNat_natCast] at h
  by_cases h2:d.length = 2 * n
  case neg => rw [if_pos h2] at h;cases h
  rw [if_neg (fun k => k h2)] at h
  by_cases h3:(List.range d.length).any (Tl.bdF n d) = true
  · rw [if_pos h3] at h;cases h
  have h4:∀ i,i < 2 * n → Tl.bdF n d i = false:=fun i hi => Bool.eq_false_iff.2 fun k => h3 (Tl.bdF_one (by rw [h2];exact hi) k)
  have h5:∀ i,i < 2 * n → 0 ≤ d.getD i 0 ∧ d.getD i 0 < 2 * n ∧ d.getD i 0 ≠ i ∧ d.getD (d.getD i 0).toNat 0 = i:=fun i hi => by
    have:=h4 i hi
    unfold Tl.bdF at this
    simp only [Bool.or_eq_false_iff,decide_eq_false_iff_not] at this
    obtain ⟨⟨⟨b1,b2⟩,b3⟩,b4⟩:=this
    exact ⟨by omega,by omega,b3,Classical.not_not.1 b4⟩
  refine ⟨n,rfl,by omega,by omega,d.map fun x => (x + 1).toNat,?_,?_⟩
  · have hg:∀ i,i < 2 * n → (d.map fun x => (x + 1).toNat).getD i 0 = (d.getD i 0 + 1).toNat:=fun i hi => by simp [List.getD,h2,hi]
    refine ⟨by simp [h2],fun i hi => ?_⟩
    obtain ⟨c1,c2,c3,c4⟩:=h5 i hi
    rw [hg i hi]
    have e:(d.getD i 0 + 1).toNat - 1 = (d.getD i 0).toNat:=by omega
    rw [e,hg _ (by omega),c4]
    exact ⟨by omega,by omega,by omega,by omega⟩
  · refine List.ext_getElem (by simp [toI]) fun i k1 k2 => ?_
    have:=(h5 i (by rw [← h2];exact k1)).1
    rw [show d.getD i 0 = d[i] by simp [List.getD,k1]] at this
    simp [toI]
    omega
theorem fill_all {n:Nat} (h0:1 ≤ n) (hn:n ≤ 6):(Tl.fillN (n + 1) (List.replicate (2 * n) 0)).filter (Tl.okE (Tl.bnd n)) = (Tl.plan n).map (List.map (· + 1)):=by
  by_cases e:n = 6
  · subst e;exact fill_6
  · have h1:=fill_low
    rw [List.all_eq_true] at h1
    have h2:=h1 n (List.mem_range.2 (by omega))
    rw [Bool.or_eq_true,beq_iff_eq,beq_iff_eq] at h2
    rcases h2 with h2 | h2
    · omega
    · exact h2
theorem Prt.zero {N:Nat} (D:List Nat):Prt N D (List.replicate N 0):=⟨by simp,fun i hi => .inl (by simp [List.getD,hi]),fun i hi _ => by
  by_cases h:D.getD i 0 - 1 < N
  · rw [List.getD_eq_getElem?_getD,List.getElem?_replicate,if_pos h];rfl
  · rw [List.getD_eq_getElem?_getD,List.getElem?_eq_none (by simpa using Nat.le_of_not_lt h)];rfl⟩
theorem valid_plan {m:Int} {d:List Int} (h:Tl.mtF m d = 0):∃ n:Nat,m = (n:Int) ∧ 1 ≤ n ∧ n ≤ 6 ∧ ∃ x,x ∈ Tl.plan n ∧ d = zs x:=by
  obtain ⟨n,rfl,h0,h6,D,hD,rfl⟩:=mtF_zero h
  refine ⟨n,rfl,h0,h6,?_⟩
  have hm:=fill_mem hD (n + 1) (Prt.zero D) (by rw [List.count_replicate_self];omega)
  have hf:D ∈ (Tl.fillN (n + 1) (List.replicate (2 * n) 0)).filter (Tl.okE (Tl.bnd n)):=List.mem_filter.2 ⟨hm,(mtF_inv h0 h6 hD).1 h⟩
  rw [fill_all h0 h6] at hf
  obtain ⟨x,hx,rfl⟩:=List.mem_map.1 hf
  exact ⟨x,hx,toI_succ x⟩
end Go.Proofs.YtndgffiihbdppaaGreatDoor
namespace Go.Proofs.YtndgffiihbdppaaGreatDoor.Tl
set_option linter.unusedVariables false
set_option linter.unusedSimpArgs false

structure Sub (f:Nat → Nat) (l2 l1:List Nat):Prop where
  ok2:Ok l2
  ok1:Ok l1
  lt:∀ a,a < l2.length → f a < l1.length
  rel:∀ a b,a < l2.length → b < l2.length → same l2 a b → same l1 (f a) (f b)
theorem Sub.join {f:Nat → Nat} {l2 l1:List Nat} (h:Sub f l2 l1) {x y:Nat} (hx:x < l2.length) (hy:y < l2.length) :
    Sub f (Tl.join l2 x y) (Tl.join l1 (f x) (f y)) ∧ cnt l1 + cnt (Tl.join l2 x y) ≤ cnt (Tl.join l1 (f x) (f y)) + cnt l2:=by
  have gx:=h.lt x hx
  have gy:=h.lt y hy
  refine ⟨⟨h.ok2.join hx hy,h.ok1.join gx gy,fun a ha => ?_,fun a b ha hb => ?_⟩,?_⟩
  · rw [join_length] at ha ⊢;exact h.lt a ha
  · rw [join_length] at ha hb
    rw [join_same ha hb,join_same (h.lt a ha) (h.lt b hb)]
    rintro (k | ⟨k1,k2⟩ | ⟨k1,k2⟩)
    · exact .inl (h.rel a b ha hb k)
    · exact .inr (.inl ⟨h.rel a x ha hx k1,h.rel y b hy hb k2⟩)
    · exact .inr (.inr ⟨h.rel a y ha hy k1,h.rel x b hx hb k2⟩)
  · have c1:=join_cnt h.ok1 gx gy
    have c2:=join_cnt h.ok2 hx hy
    have hr:=h.rel x y hx hy
    by_cases e:same l2 x y
    · rw [if_pos e] at c2
      rw [if_pos (hr e)] at c1
      omega
    · rw [if_neg e] at c2
      split at c1 <;> omega
theorem Sub.joins {f:Nat → Nat} {es:List (Nat × Nat)}:∀ {l2 l1:List Nat},Sub f l2 l1 → (∀ e ∈ es,e.1 < l2.length ∧ e.2 < l2.length) →
    cnt l1 + cnt (Tl.joins l2 es) ≤ cnt (Tl.joins l1 (es.map fun e => (f e.1,f e.2))) + cnt l2:=by
  induction es with
  | nil => intro l2 l1 h _;exact Nat.le_refl _
  | cons e es ih =>
    intro l2 l1 h he
    have h1:=he e (by simp)
    obtain ⟨s,c⟩:=h.join h1.1 h1.2
    have c2:=ih s (fun e' h' => by rw [join_length];exact he e' (by simp [h']))
    show cnt l1 + cnt (Tl.joins (Tl.join l2 e.1 e.2) es) ≤ cnt (Tl.joins (Tl.join l1 (f e.1) (f e.2)) (es.map fun e => (f e.1,f e.2))) + cnt l2
    omega
theorem two_le {n:Nat} {x y:List Nat} (hx:Base n x) (hy:Base n y):n ≤ cnt (labS n [x,y]):=by
  have hox:=labS_ok (n:=n) (l:=[x]) (fun d hd => by simp at hd;subst hd;exact hx.mat.ok)
  have l1:(labS n [x]).length = n * 2:=labS_length n [x]
  have hS:Sub (n + ·) (List.range (2 * n)) (labS n [x] ++ (List.range n).map ((labS n [x]).length + ·)):=by
    refine ⟨Ok.range _,hox.app n,fun a ha => ?_,fun a b ha hb h => ?_⟩
    · rw [List.length_range] at ha
      rw [List.length_append,List.length_map,List.length_range,l1]
      omega
    · rw [List.length_range] at ha hb
      unfold same at h
      rw [range_at ha,range_at hb] at h
      rw [h]
  have hj:=hS.joins (es:=lay 0 y) (fun e he => by rw [List.length_range];exact lay_lt hy.mat.ok (by omega) e he)
  have e1:(lay 0 y).map (fun e => (n + e.1,n + e.2)) = lay (1 * n) y:=by
    unfold lay
    rw [List.map_map]
    refine List.map_congr_left fun i _ => ?_
    simp
  have e2:cnt (joins (List.range (2 * n)) (lay 0 y)) = n:=by
    have:=hy.cnt
    rw [labS_one,Nat.mul_comm] at this
    exact this
  rw [e1,e2,cnt_range,cnt_app hox,hx.cnt,← labS_two n hx.mat.ok] at hj
  omega
end Go.Proofs.YtndgffiihbdppaaGreatDoor.Tl
