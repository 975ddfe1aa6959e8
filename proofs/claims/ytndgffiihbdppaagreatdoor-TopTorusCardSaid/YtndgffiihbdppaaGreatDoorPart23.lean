/- Several texts in one. -/
import Derived.Test.YtndgffiihbdppaaGreatDoorPart22
import Derived.Test.YtndgffiihbdppaaGreatDoorPart1
import Derived.Test.YtndgffiihbdppaaGreatDoorPart2
import Derived.Test.YtndgffiihbdppaaGreatDoorPart6
import Derived.Test.YtndgffiihbdppaaGreatDoorPart18
import Derived.Test.YtndgffiihbdppaaGreatDoorPart19
namespace Go.Proofs.YtndgffiihbdppaaGreatDoor
set_option linter.unusedVariables false
set_option linter.unusedSimpArgs false
open Go.RowKit

set_option maxRecDepth 100000 in
set_option maxHeartbeats 8000000 in
theorem aldet_any (F:PolyC) (A:Option Addr) (n c:Nat) (pss:List (List Po)) (w:World) (ha:SPP w A n c pss) (h5:n ≤ 5) (hrow:∀ r ∈ pss,r.length = n ∧ ∀ p ∈ r,elA p) (hce:CE (detR n (pmM pss (colL n))) 20 100000000) :
    Calls Tryz.prog 15 #[.slice A n c] w (GivesP w (LP.canon (detR n (pmM pss (colL n)))).1 (LP.canon (detR n (pmM pss (colL n)))).2):=by
  have HLEN:=hide ha.len
  have hns:=ha.small
  have HW:Hid (Below w.heap.size w (w.alloc (.cells #[.int .i64 0,.slice none 0 0] 26))):=hide ((Below.refl _ _).alloc (Nat.le_refl _) _)
  have HBK:Hid (Blk (w.alloc (.cells #[.int .i64 0,.slice none 0 0] 26)) w.heap.size 26 #[.int .i64 0,.slice none 0 0]):=hide (Blk.new _ _ _)
  have HA:=hide (ha.below HW.out)
  have HROW:=hide hrow
  have HCE:=hide hce
  have HF:=hide F
  obtain ⟨D,hD⟩:∃ D,detR n (pmM pss (colL n)) = D:=⟨_,rfl⟩
  rw [hD] at HCE ⊢
  have HD:=hide hD
  clear ha hrow hce F hD
  obtain ⟨i0,hi0,hz0,hz1,hz2⟩:=info_parts int_info
  go_enter Tryz.func15,Tryz.ntmps15
  go_upto_region 1 with fail
  obtain ⟨b2,hb2⟩:∃ b,w.heap.size = b:=⟨_,rfl⟩
  obtain ⟨w1,hw1⟩:∃ x,w.alloc (.cells #[.int .i64 0,.slice none 0 0] 26) = x:=⟨_,rfl⟩
  rw [hw1] at HW HBK HA ⊢
  rw [hb2] at HBK ⊢
  have HWB:Hid (w.heap.size ≤ b2):=hide (by omega)
  clear hw1 hb2
  go_wp2_with fail
  go_loopw [3,10] (fun cv iv wx => ∃ (k:Nat) (C:Option Addr) (cc:Nat),k ≤ n ∧ iv = .int .i64 k ∧ cv = .slice C k cc ∧ Hid (OwnI wx w1.heap.size C k cc (colL k)) ∧ Hid (Below w1.heap.size w1 wx)) (fun _ iv _ => n - (intOf iv).toNat)
  case atStart => exact ⟨0,none,0,Nat.zero_le _,rfl,rfl,hide (OwnI.nil_ _ _),hide (Below.refl _ _)⟩
  case round =>
    obtain ⟨k,C,cc,hk,rfl,rfl,HO,HW1⟩:=hrel
    by_cases hkn:k < n
    · have HS:=hide (colL_succ k)
      have hszw:=HW1.out.size
      have hok:=HO.out
      go_wp2_with (first | (at_builtin;refine wpList_append_int _ rfl (.tmp 13) (.tmp 15) 23 rfl w1.heap.size i0 Tryz.underlying23 hi0 hz0 hz1 hz2 C k cc (colL k) rfl (hok.alloc _) (some ⟨wr.heap.size,0,none⟩) 1 1 [(k:Int)] rfl (IL.lit wr [(k:Int)] (by simp) rfl rfl) (by omega) (Nat.le_trans hszw (by simp)) ?_;intro A9 c9 w9 happ))
      have ho:=happ.own
      rw [← HS.out] at ho
      have HO9:=hide ho
      have hlies:∀ g,(Value.slice C k cc).ownBlock = some g → w1.heap.size ≤ g:=fun g hg => (hok.lt g hg).1
      have HW9:Hid (Below w1.heap.size w1 w9):=hide ((HW1.out.alloc hszw _).grown happ.grown (Nat.le_trans hszw (by simp)) (fun g hg => hlies g (by rw [ownBlock_len C k (k + 1) cc cc];exact hg)))
      clear happ ho hlies hok HO HW1
      go_wp2_with fail
      go_roundw
      case rel => exact ⟨k + 1,A9,c9,by omega,by go_num,rfl,HO9,HW9⟩
      case measure => simp [intOf];omega
    · have hke:k = n:=by omega
      subst hke
      have hl2:=HBK.out.lt
      replace HA:=hide (HA.out.below HW1.out)
      replace HW:=hide (HW.out.trans (HW1.out.mono HW.out.size))
      replace HBK:=hide (HBK.out.below HW1.out hl2)
      have HC:=hide HO.out.sl
      rename World => w2
      have hb:Below w2.heap.size w2 (w2.alloc (.cells #[.int .i64 0,.slice none 0 0] 26)):=(Below.refl _ _).alloc (Nat.le_refl _) _
      have B5:=hide (Blk.new w2 26 #[.int .i64 0,.slice none 0 0])
      have hl22:=HBK.out.lt
      replace HA:=hide (HA.out.below hb)
      replace HW:=hide (HW.out.trans (hb.mono HW.out.size))
      replace HBK:=hide (HBK.out.below hb hl22)
      replace HC:=hide (HC.out.below hb)
      clear HO HW1 hb hl2
      go_upto_region 8 with fail
      obtain ⟨b5,hb5⟩:∃ b,w2.heap.size = b:=⟨_,rfl⟩
      obtain ⟨w3,hw3⟩:∃ x,w2.alloc (.cells #[.int .i64 0,.slice none 0 0] 26) = x:=⟨_,rfl⟩
      rw [hw3] at HA HW HBK HC B5 ⊢
      rw [hb5] at B5 hl22 ⊢
      have h25:b2 ≠ b5:=by omega
      have HWB5:Hid (w.heap.size ≤ b5):=hide (by have:=HWB.out;omega)
      clear hw3 hb5 hl22
      go_wp2_with fail
      refine (alExp_any k k A c pss C cc (colL k) _ HA.out HC.out h5 HROW.out (fun x hx => colL_mem hx)).mono ?_
      rintro e w4 ⟨R,d,ys,rfl,hown,hlp,hb⟩
      rw [HD.out] at hlp
      obtain ⟨L,hL⟩:∃ L:Nat,40 * k + 1 = L:=⟨_,rfl⟩
      rw [hL] at hown ⊢
      have hyl:ys.length = L:=by have:=hown.len;simpa using this
      have hL300:L ≤ 300:=by omega
      have hym:ys.map wr64 = ys:=map_wr64 fun y hy => by
        obtain ⟨j,hj,rfl⟩:=List.mem_iff_getElem.1 hy
        have h1:=(CE.at_ (b:=-20 * (k:Int)) (ys:=ys) (by rw [hlp];exact HCE.out) hj).1
        rw [show ys.getD j 0 = ys[j] by simp [List.getD,List.getElem?_eq_getElem hj]] at h1
        omega
      rw [hym] at hown
      have HR:=hide hown.sl
      have hl2:=HBK.out.lt
      have hl5:=B5.out.lt
      replace HW:=hide (HW.out.trans (hb.mono HW.out.size))
      replace HBK:=hide (HBK.out.below hb hl2)
      replace B5:=hide (B5.out.below hb hl5)
      have hRf:∀ ad,R = some ad → ad.block ≠ b5 ∧ ad.block ≠ b2:=fun ad e => by
        have hown2:=hown.own.2
        rcases hown2 with ⟨hv,h0⟩ | ⟨g',cap,cur,hv,hg',_⟩
        · omega
        · injection hv with hv
          rw [e] at hv
          injection hv with hv
          rw [hv]
          show g' ≠ b5 ∧ g' ≠ b2
          omega
      have HRF:=hide hRf
      obtain ⟨f,hf⟩:∃ f:Nat → LP,(fun i => LP.of (-20 * (k:Int)) (ys.take i)) = f:=⟨_,rfl⟩
      have hfe:∀ i,LP.of (-20 * (k:Int)) (ys.take i) = f i:=fun i => congrFun hf i
      have hce:CE (LP.of (-20 * (k:Int)) ys) 20 100000000:=by rw [hlp];exact HCE.out
      have hf0:LP.canon (f 0) = (0,[]):=by rw [← hfe];exact LP.canon_zero
      have hfL:f L = D:=by rw [← hfe,List.take_of_length_le (by omega)];exact hlp
      have HADD:Hid (∀ i,i < L → ys.getD i 0 ≠ 0 → ∀ (w:World) (P:Option Addr) (pn pc:Nat) (Q:Option Addr) (qn qc:Nat),SL w P pn pc (LP.canon (f i)).2 → SL w Q qn qc [ys.getD i 0] →
          Calls Tryz.prog 33 #[PV (LP.canon (f i)).1 P pn pc,PV ((i:Int) - (k:Int) * 20) Q qn qc] w (GivesPE w (0,(LP.canon (f (i + 1))).1,(LP.canon (f (i + 1))).2))):=hide (fun i hi h0 w P pn pc Q qn qc s1 s2 => by
        have h:=HF.out.add (LP.canon (f i)).1 P pn pc _ ((i:Int) - (k:Int) * 20) Q qn qc _ w s1 s2 (by rw [← hfe];exact LP.Rt.wf ((hce.take_ i).rt (by omega) (Nat.le_refl _))) (wfI (by omega))
        rw [← hfe,← hfe,show (i:Int) - (k:Int) * 20 = -20 * (k:Int) + i by omega] at *
        rw [canon_more hce (by omega) h0] at h
        exact h)
      have HSAME:Hid (∀ i,i < L → ys.getD i 0 = 0 → f (i + 1) = f i):=hide (fun i hi h0 => by rw [← hfe,← hfe];exact canon_same (by omega) h0)
      have HYB:Hid (∀ i,i < L → (ys.getD i 0).natAbs ≤ 100000000):=hide (fun i hi => (hce.at_ (by omega)).1)
      have SP:Hid (SL w4 none 0 0 (LP.canon (f 0)).2):=hide (by rw [hf0];exact SL.nil_ _)
      replace B5:Hid (Blk w4 b5 26 #[.int .i64 (LP.canon (f 0)).1,.slice none 0 0]):=hide (by rw [hf0];exact B5.out)
      have HFL:=hide hfL
      clear hown hlp hb hyl hym HC HA HROW HCE HF HD hRf hf hfe hce hf0 hfL hl2 hl5 hi0 hz0 hz1 hz2 hL HLEN
      go_wp2_with fail
      go_loopw [22] (fun iv wx => ∃ (i:Nat) (P:Option Addr) (pn pc:Nat),iv = .int .i64 i ∧ i ≤ L ∧ Hid (Blk wx b2 26 #[.int .i64 0,.slice none 0 0]) ∧ Hid (Blk wx b5 26 #[.int .i64 (LP.canon (f i)).1,.slice P pn pc]) ∧ Hid (SL wx P pn pc (LP.canon (f i)).2) ∧ Hid (0 < pn → ∀ ad,P = some ad → b2 < ad.block ∧ b5 < ad.block) ∧ Hid (SL wx R L d ys) ∧ Hid (Below w.heap.size w wx)) (fun iv _ => L - (intOf iv).toNat)
      case atStart => exact ⟨0,none,0,0,rfl,Nat.zero_le _,HBK,B5,SP,hide (fun h => absurd h (by omega)),HR,HW⟩
      case round =>
        clear HBK B5 SP HR HW
        obtain ⟨i,P,pn,pc,rfl,hi,HBK,B5,SP,HN,HR,HW⟩:=hrel
        by_cases hlt:i < L
        · obtain ⟨ad,rfl,hc⟩:=HR.out.il.at_ hlt
          have HSM:=hide (HSAME.out i hlt)
          have HAD:=hide (HADD.out i hlt)
          have hyb:=HYB.out i hlt
          obtain ⟨y,hy⟩:∃ y,ys.getD i 0 = y:=⟨_,rfl⟩
          rw [hy] at hc HSM HAD hyb
          clear hy
          by_cases hy0:y = 0
          · have hz:(y != 0) = false:=by simp [hy0]
            have HS2:=hide (HSM.out hy0)
            rw [← HS2.out] at B5 SP
            clear hy0 HSM HAD HS2
            go_wp2_with fail
            go_roundw
            case rel => exact ⟨i + 1,P,pn,pc,by go_num,by omega,HBK,B5,SP,HN,HR,HW⟩
            case measure => simp [intOf];omega
          · have hz:(y != 0) = true:=by simpa using hy0
            have hal:Below wr.heap.size wr (wr.alloc (.cells #[.int .i64 y] 3)):=(Below.refl _ _).alloc (Nat.le_refl _) _
            have HLT:=hide (SL.lit wr [y] (by simp) (cs:=#[.int .i64 y]) rfl (m:=1) rfl)
            have HAD2:=hide (HAD.out hy0 _ P pn pc (some ⟨wr.heap.size,0,none⟩) 1 1 (SP.out.below hal) HLT.out)
            have hl2:=HBK.out.lt
            have hl5:=B5.out.lt
            have c0:=B5.out.cell 0
            have c1:=B5.out.cell 1
            simp at c0 c1
            have hw20:IntKind.i64.wrap ((k:Int) * 20) = (k:Int) * 20:=by rw [IntKind.wrap_i64];omega
            have hwi:IntKind.i64.wrap ((i:Int) - (k:Int) * 20) = (i:Int) - (k:Int) * 20:=by rw [IntKind.wrap_i64];omega
            have HLI:=hide hlt
            clear hy0 HSM HAD hlt hi
            go_wp2_with fail
            refine HAD2.out.mono ?_
            rintro e w7 ⟨P',pn',pc',rfl,hs,hnw,hb⟩
            dsimp only at hs ⊢
            have hb2:=hal.trans (hb.mono hal.size)
            have hsz:=hal.size
            have HN2:Hid (0 < pn' → ∀ ad,P' = some ad → b2 < ad.block ∧ b5 < ad.block):=hide (fun h ad e => by have:=hnw h ad e;omega)
            replace HBK:=hide (HBK.out.below hb2 hl2)
            replace B5:=hide (B5.out.below hb2 hl5)
            replace HR:=hide (HR.out.below hb2)
            replace HW:=hide (HW.out.trans (hb2.mono HW.out.size))
            have f6:0 < pn' → ∀ ad,P' = some ad → ad.block ≠ b5:=fun h ad e => by have:=HN2.out h ad e;omega
            have SP2:=hide ((hs.setCell f6 0 (.int .i64 (LP.canon (f (i + 1))).1)).setCell f6 1 (.slice P' pn' pc'))
            have hRn:0 < L → ∀ a,some ad = some a → a.block ≠ b5:=fun _ a e => (HRF.out a e).1
            have HR2:=hide ((HR.out.setCell hRn 0 (.int .i64 (LP.canon (f (i + 1))).1)).setCell hRn 1 (.slice P' pn' pc'))
            have HBK2:=hide ((HBK.out.far (p:=⟨b5,0,none⟩) h25 (.int .i64 (LP.canon (f (i + 1))).1)).far (p:=⟨b5,1,none⟩) h25 (.slice P' pn' pc'))
            have B52:Hid (Blk ((w7.setCell ⟨b5,0,none⟩ (.int .i64 (LP.canon (f (i + 1))).1)).setCell ⟨b5,1,none⟩ (.slice P' pn' pc')) b5 26 #[.int .i64 (LP.canon (f (i + 1))).1,.slice P' pn' pc']):=hide ((B5.out.set_ 0 (.int .i64 (LP.canon (f (i + 1))).1)).set_ 1 (.slice P' pn' pc'))
            have HW2:=hide ((HW.out.setCell (p:=⟨b5,0,none⟩) HWB5.out (.int .i64 (LP.canon (f (i + 1))).1)).setCell (p:=⟨b5,1,none⟩) HWB5.out (.slice P' pn' pc'))
            have e0:=B5.out.cell 0
            have e1:=B5.out.cell 1
            have g0:=B5.out.frozen 0
            have g1:=B5.out.frozen 1
            simp at e0 e1
            have l53:=B5.out.lt
            have hlt:=HLI.out
            clear hs hnw hb hb2 hal c0 c1 HLT HAD2 hl2 hl5 f6 hRn HBK B5 HW HN HR SP hsz
            go_wp2_with fail
            go_roundw
            case rel => exact ⟨i + 1,P',pn',pc',by go_num,by omega,HBK2,B52,SP2,HN2,HR2,HW2⟩
            case measure => simp [intOf];omega
        · have hiL:i = L:=by omega
          subst hiL
          have HFD:=HFL
          have c0:=B5.out.cell 0
          have c1:=B5.out.cell 1
          have c2:=HBK.out.cell 0
          have c3:=HBK.out.cell 1
          have f2:=HBK.out.frozen 0
          have f3:=HBK.out.frozen 1
          simp at c0 c1 c2 c3
          have l6:=HBK.out.lt
          have HF2:Hid (0 < pn → ∀ ad,P = some ad → ad.block ≠ b2):=hide (fun h ad e => by have:=HN.out h ad e;omega)
          clear hi hlt
          go_wp2_with fail
          refine bodyPost_ret (results_poly rfl _ rfl ((HBK.out.set_ 0 (.int .i64 (LP.canon (f i)).1)).set_ 1 (.slice P pn pc))) rfl ?_
          rw [← HFD.out]
          refine ⟨P,pn,pc,rfl,(SP.out.setCell HF2.out 0 _).setCell HF2.out 1 _,fun h ad e => by have:=HN.out h ad e;have:=HWB.out;omega,?_⟩
          exact (HW.out.setCell (p:=⟨b2,0,none⟩) HWB.out _).setCell (p:=⟨b2,1,none⟩) HWB.out _
end Go.Proofs.YtndgffiihbdppaaGreatDoor
namespace Go.Proofs.YtndgffiihbdppaaGreatDoor
set_option linter.unusedVariables false
set_option linter.unusedSimpArgs false
open Go.RowKit

set_option maxRecDepth 100000 in
set_option maxHeartbeats 8000000 in
theorem alpoly_any (FB:BraidC) (F:PolyC) (m:Int) (A:Option Addr) (n c:Nat) (xs:List Int) (w:World) (ha:SL w A n c xs) (hm:(Lit.int .i64 m).wf = true) (hF:alF m xs) :
    Calls Tryz.prog 6 #[.int .i64 m,.slice A n c] w (GivesPE w (alE m xs,0,alP m xs)):=by
  have HLEN:=hide ha.il.len
  have HW:Hid (Below w.heap.size w (w.alloc (.cells #[.int .i64 0,.slice none 0 0] 26))):=hide ((Below.refl _ _).alloc (Nat.le_refl _) _)
  have HBK:Hid (Blk (w.alloc (.cells #[.int .i64 0,.slice none 0 0] 26)) w.heap.size 26 #[.int .i64 0,.slice none 0 0]):=hide (Blk.new _ _ _)
  have HA:=hide (ha.below HW.out)
  have HFB:=hide FB
  have HFP:=hide F
  have HM:=hide hm
  have HF:=hide hF
  clear ha FB F hm hF
  go_enter Tryz.func6,Tryz.ntmps6
  go_upto_region 1 with fail
  obtain ⟨b2,hb2⟩:∃ b,w.heap.size = b:=⟨_,rfl⟩
  obtain ⟨w1,hw1⟩:∃ x,w.alloc (.cells #[.int .i64 0,.slice none 0 0] 26) = x:=⟨_,rfl⟩
  rw [hw1] at HW HBK HA ⊢
  rw [hb2] at HBK ⊢
  have HWB:Hid (w.heap.size ≤ b2):=hide (by omega)
  clear hw1 hb2
  go_wp2_with fail
  refine (HFB.out.check m A n c xs _ HA.out HM.out).mono ?_
  rintro e w2 ⟨rfl,hb⟩
  have hl:=HBK.out.lt
  replace HA:=hide (HA.out.below hb)
  replace HW:=hide (HW.out.trans (hb.mono HW.out.size))
  replace HBK:=hide (HBK.out.below hb hl)
  clear hb hl
  obtain ⟨p,hp⟩:∃ p,bfault m xs = p:=⟨_,rfl⟩
  rw [hp]
  have HP:=hide hp
  clear hp
  have END:Hid (∀ (e:Int) (wx:World),Blk wx b2 26 #[.int .i64 0,.slice none 0 0] → Below w.heap.size w wx → alE m xs = e → e ≠ 0 → GivesPE w (alE m xs,0,alP m xs) (.returned (.tuple #[PV 0 none 0 0,.int .i64 e])) ((wx.setCell ⟨b2,0,none⟩ (.int .i64 0)).setCell ⟨b2,1,none⟩ (.slice none 0 0))):=hide (fun e wx h1 h2 h3 h4 => by
    rw [(alP_bad (by rw [h3];exact h4)).1,h3]
    exact ⟨none,0,0,rfl,SL.nil_ _,fun h => absurd h (by omega),(h2.setCell (p:=⟨b2,0,none⟩) HWB.out _).setCell (p:=⟨b2,1,none⟩) HWB.out _⟩)
  have hf0:=HBK.out.frozen 0
  have hf1:=HBK.out.frozen 1
  have hr0:=HBK.out.cell 0
  have hr1:=HBK.out.cell 1
  simp at hr0 hr1
  have hlt:=HBK.out.lt
  by_cases hp0:p = 0
  case neg =>
    have HTE:=hide (alE_bad (n:=m) (w:=xs) (by rw [HP.out];exact hp0))
    rw [HP.out] at HTE
    have HNZ:=hide hp0
    have hne:(p != 0) = true:=by simpa using hp0
    clear hp0
    go_wp2_with fail
    refine bodyPost_ret (results_pe rfl _ rfl rfl ((HBK.out.set_ 0 (.int .i64 0)).set_ 1 (.slice none 0 0))) rfl ?_
    exact END.out p _ HBK.out HW.out HTE.out HNZ.out
  subst hp0
  by_cases h20:20 < n
  case pos =>
    have HTE:=hide (alE_long HP.out (by rw [HLEN.out];exact h20))
    have hgt:decide ((20:Int) < (n:Int)) = true:=by simp;omega
    clear h20
    go_wp2_with fail
    refine bodyPost_ret (results_pe rfl _ rfl rfl ((HBK.out.set_ 0 (.int .i64 0)).set_ 1 (.slice none 0 0))) rfl ?_
    exact END.out 2 _ HBK.out HW.out HTE.out (by decide)
  have hz:=bfault_zero HP.out
  obtain ⟨N,rfl⟩:∃ N:Nat,m = (N:Int):=⟨m.toNat,by omega⟩
  have hN1:1 ≤ N:=by omega
  have hN6:N ≤ 6:=by omega
  have hok:okB N xs:=fun x hx => by have:=hz.2.2.2 x hx;omega
  have hl20:xs.length ≤ 20:=by rw [HLEN.out];omega
  have HTE:=hide (alE_ok HP.out hl20)
  have hsh:xs.length ≤ 16 ∨ N ≤ 2:=by
    rcases HF.out HTE.out with h | h
    · exact .inl h
    · exact .inr (by omega)
  have hAF:=AlF.all hok hN1 hl20 hsh
  rw [HLEN.out] at hAF
  have hsm:∀ i,i < N → ∀ j,j < N → LP.N1 (bu N xs i j) 20 99999999:=fun i hi j hj => by
    have:=hAF.sm i hi j hj
    rwa [List.take_append_drop] at this
  have HCE:=hide (adet_ce hok hN1 hN6 hl20 hsh)
  have HAB:=hide (fun (w:World) (s:SL w A n c xs) => alb_any HFB.out HFP.out N A n c xs w s hN1 hN6 hok (by omega) hAF)
  have HIM:=hide (fun (w:World) (B:Option Addr) (d:Nat) (s:SPP w B N d (tabA N (bu N xs))) => (by
    have:=im_any HFP.out B N d _ (N - 1) (bu N xs) w s (by omega) (by omega) (fun i hi j hj => by rw [tabA_getD (by omega),rowA_getD (by omega)]) (fun i hi => by rw [tabA_getD (by omega),rowA_length];omega) (fun i hi j hj => (hsm i (by omega) j (by omega)).rt (by omega) (by omega)) (fun i hi j hj => (imA_n1 (hsm i (by omega) j (by omega))).rt (by omega) (Nat.le_refl _))
    rw [show ((N - 1:Nat):Int) = (N:Int) - 1 by omega] at this
    exact this:Calls Tryz.prog 16 #[.slice B N d,.int .i64 ((N:Int) - 1)] w (GivesMt w (N - 1) (imA N xs))))
  have hdet:detR (N - 1) (pmM (tabA (N - 1) (imA N xs)) (colL (N - 1))) = adet N xs:=imL_det N xs
  have HDT:=hide (fun (w:World) (B:Option Addr) (d:Nat) (s:SPP w B (N - 1) d (tabA (N - 1) (imA N xs))) => (by
    have:=aldet_any HFP.out B (N - 1) d _ w s (by omega) (fun r hr => by
      unfold tabA at hr
      obtain ⟨i,hi,rfl⟩:=List.mem_map.1 hr
      have hi:=List.mem_range.1 hi
      refine ⟨rowA_length _ _ _,fun p hp => ?_⟩
      unfold rowA at hp
      obtain ⟨j,hj,rfl⟩:=List.mem_map.1 hp
      have hj:=List.mem_range.1 hj
      exact elA_n1 (imA_n1 (hsm i (by omega) j (by omega)))) (by rw [hdet];exact HCE.out)
    rw [hdet] at this
    exact this:Calls Tryz.prog 15 #[.slice B (N - 1) d] w (GivesP w (LP.canon (adet N xs)).1 (LP.canon (adet N xs)).2)))
  have hrt:LP.Rt (adet N xs):=HCE.out.rt (by omega) (Nat.le_refl _)
  have HNO:=hide (fun (w:World) (B:Option Addr) (k d:Nat) (s:SL w B k d (LP.canon (adet N xs)).2) => (by
    have:=HFP.out.norm (LP.canon (adet N xs)).1 B k d _ w s hrt.wf
    rw [LP.normR_canon hrt] at this
    exact this:Calls Tryz.prog 14 #[PV (LP.canon (adet N xs)).1 B k d] w (GivesPE w (0,0,LP.normC (LP.canon (adet N xs)).2))))
  have HAP:=hide (alP_eq HTE.out)
  obtain ⟨lo,hlo⟩:∃ z,(LP.canon (adet N xs)).1 = z:=⟨_,rfl⟩
  obtain ⟨cs,hcs⟩:∃ z,(LP.canon (adet N xs)).2 = z:=⟨_,rfl⟩
  rw [hlo,hcs] at HDT
  rw [hlo,hcs] at HNO
  rw [hcs] at HAP
  have hgt:decide ((20:Int) < (n:Int)) = false:=by simp;omega
  obtain ⟨K,hK⟩:∃ K,N - 1 = K:=⟨_,rfl⟩
  rw [hK] at HIM HDT
  generalize LP.normC cs = zs' at *
  generalize imA N xs = IM at *
  clear hz hok hl20 hsh hAF hsm hdet hrt HCE hlo hcs END HFB HFP HM HF hK h20
  go_wp2_with fail
  refine (HAB.out _ HA.out).mono ?_
  rintro e w3 ⟨B,d,rfl,hs,hb⟩
  have S3:=hide hs
  have hl:=HBK.out.lt
  replace HW:=hide (HW.out.trans (hb.mono HW.out.size))
  replace HBK:=hide (HBK.out.below hb hl)
  clear hs hb hl HAB HA hr0 hr1 hf0 hf1 hlt
  go_wp2_with fail
  refine (HIM.out _ B d S3.out).mono ?_
  rintro e w4 ⟨B2,d2,rfl,hs,hb⟩
  have S4:=hide hs
  have hl:=HBK.out.lt
  replace HW:=hide (HW.out.trans (hb.mono HW.out.size))
  replace HBK:=hide (HBK.out.below hb hl)
  clear hs hb hl HIM S3
  go_wp2_with fail
  refine (HDT.out _ B2 d2 S4.out).mono ?_
  rintro e w5 ⟨P,pn,pc,rfl,hs,_,hb⟩
  have S5:=hide hs
  have hl:=HBK.out.lt
  replace HW:=hide (HW.out.trans (hb.mono HW.out.size))
  replace HBK:=hide (HBK.out.below hb hl)
  clear hs hb hl HDT S4
  go_wp2_with fail
  refine (HNO.out _ P pn pc S5.out).mono ?_
  rintro e w6 ⟨Q,qn,qc,rfl,hs,hnw,hb⟩
  dsimp only at hs ⊢
  have hl:=HBK.out.lt
  have HFR:Hid (0 < qn → ∀ ad,Q = some ad → ad.block ≠ b2 ∧ b2 ≤ ad.block):=hide (fun h ad e => by have:=hnw h ad e;omega)
  replace HW:=hide (HW.out.trans (hb.mono HW.out.size))
  replace HBK:=hide (HBK.out.below hb hl)
  have S6:=hide hs
  have hf0:=HBK.out.frozen 0
  have hf1:=HBK.out.frozen 1
  have hr0:=HBK.out.cell 0
  have hr1:=HBK.out.cell 1
  simp at hr0 hr1
  have hlt:=HBK.out.lt
  clear hs hb hl HNO S5 hnw
  go_wp2_with fail
  refine bodyPost_ret (results_pe rfl _ rfl rfl ((HBK.out.set_ 0 (.int .i64 0)).set_ 1 (.slice Q qn qc))) rfl ?_
  have hfar:0 < qn → ∀ ad,Q = some ad → ad.block ≠ b2:=fun h ad e => (HFR.out h ad e).1
  rw [HTE.out,HAP.out]
  exact ⟨Q,qn,qc,rfl,(S6.out.setCell hfar 0 _).setCell hfar 1 _,fun h ad e => by have:=(HFR.out h ad e).2;have:=HWB.out;omega,(HW.out.setCell (p:=⟨b2,0,none⟩) HWB.out _).setCell (p:=⟨b2,1,none⟩) HWB.out _⟩

end Go.Proofs.YtndgffiihbdppaaGreatDoor
namespace Go.Proofs.YtndgffiihbdppaaGreatDoor
set_option linter.unusedVariables false
set_option linter.unusedSimpArgs false
open Go.RowKit

theorem alD_ev {N:Nat} {xs:List Int} (h:alE (N:Int) xs = 0) (hce:CE (adet N xs) 20 100000000):LP.evalE 0 (alP (N:Int) xs) (-1) = 0 ∧ LP.evalV 0 (alP (N:Int) xs) (-1) = altP (alP (N:Int) xs) (alP (N:Int) xs).length ∧ (altP (alP (N:Int) xs) (alP (N:Int) xs).length).natAbs ≤ 10000000000:=by
  have hrt:LP.Rt (adet N xs):=hce.rt (by omega) (Nat.le_refl _)
  rw [alP_eq h]
  obtain ⟨h1,h2⟩:=LP.normC_cano (la:=(LP.canon (adet N xs)).1) (A:=(LP.canon (adet N xs)).2) hrt
  have he:LP.evalE 0 (LP.normC (LP.canon (adet N xs)).2) (-1) = 0:=by unfold LP.evalE;rw [if_pos h2,if_pos (.inr rfl)]
  refine ⟨he,?_,?_⟩
  · unfold LP.evalV
    rw [if_pos he]
    exact ev_of0 _
  · have hm:=canon_mem hce
    have h3:=altP_le (normC_mem hm.2) (LP.normC (LP.canon (adet N xs)).2).length
    have h4:(LP.normC (LP.canon (adet N xs)).2).length ≤ 41:=by unfold LP.normC;rw [List.length_map];omega
    refine Nat.le_trans h3 ?_
    have:=Nat.mul_le_mul_right 100000000 h4
    omega

set_option maxRecDepth 100000 in
set_option maxHeartbeats 8000000 in
theorem aldetm_any (FB:BraidC) (F:PolyC) (m:Int) (A:Option Addr) (n c:Nat) (xs:List Int) (w:World) (ha:SL w A n c xs) (hm:(Lit.int .i64 m).wf = true) (hF:alF m xs) :
    Calls Tryz.prog 7 #[.int .i64 m,.slice A n c] w fun e w' => e = .returned (.tuple #[.int .i64 (alD m xs),.int .i64 (alE m xs)]) ∧ Below w.heap.size w w':=by
  have HP:=hide (alpoly_any FB F m A n c xs w ha hm hF)
  have HBAD:Hid (alE m xs ≠ 0 → alD m xs = 0):=hide (fun h => (alP_bad h).2)
  have HOK:Hid (alE m xs = 0 → LP.evalE 0 (alP m xs) (-1) = 0 ∧ LP.evalV 0 (alP m xs) (-1) = altP (alP m xs) (alP m xs).length ∧ (altP (alP m xs) (alP m xs).length).natAbs ≤ 10000000000):=hide (fun h => by
    have hbf:bfault m xs = 0:=by
      by_cases hb:bfault m xs = 0
      · exact hb
      · exact absurd ((alE_bad hb).symm.trans h) hb
    have hl:xs.length ≤ 20:=by
      by_cases h20:20 < xs.length
      · have:=alE_long hbf h20
        omega
      · omega
    have hz:=bfault_zero hbf
    obtain ⟨N,rfl⟩:∃ N:Nat,m = (N:Int):=⟨m.toNat,by omega⟩
    refine alD_ev h (adet_ce (fun x hx => by have:=hz.2.2.2 x hx;omega) (by omega) (by omega) hl ?_)
    rcases hF h with h1 | h1
    · exact .inl h1
    · exact .inr (by omega))
  have HD:Hid (alD m xs = (altP (alP m xs) (alP m xs).length).natAbs):=hide rfl
  have HEV:=hide (fun (w:World) (P:Option Addr) (pn pc:Nat) (s:SL w P pn pc (alP m xs)) => F.eval 0 P pn pc (alP m xs) (-1) w s (by decide) (by decide))
  clear ha hm hF F FB
  generalize alE m xs = ee at *
  generalize alD m xs = dd at *
  generalize alP m xs = cs at *
  go_enter Tryz.func7,Tryz.ntmps7
  go_wp2_with fail
  refine HP.out.mono ?_
  rintro e w1 ⟨P,pn,pc,rfl,hs,_,hb⟩
  dsimp only at hs ⊢
  have hal:Below w1.heap.size w1 (w1.alloc (.cells #[.int .i64 0,.slice P pn pc] 26)):=(Below.refl _ _).alloc (Nat.le_refl _) _
  have SP:=hide (hs.below hal)
  have HW:=hide (hb.trans (hal.mono hb.size))
  have BP:=hide (Blk.new w1 26 #[.int .i64 0,.slice P pn pc])
  clear hs hb hal
  go_upto_region 2 with fail
  obtain ⟨b6,hb6⟩:∃ b,w1.heap.size = b:=⟨_,rfl⟩
  obtain ⟨w2,hw2⟩:∃ x,w1.alloc (.cells #[.int .i64 0,.slice P pn pc] 26) = x:=⟨_,rfl⟩
  rw [hw2] at SP HW BP ⊢
  rw [hb6] at BP ⊢
  clear hw2 hb6 HP
  by_cases h0:ee = 0
  case neg =>
    have HDE:=hide (HBAD.out h0)
    have hne:(ee != 0) = true:=by simpa using h0
    clear h0
    go_wp2_with fail
    go_ret2
    rw [HDE.out]
    exact ⟨rfl,HW.out⟩
  subst h0
  obtain ⟨h1,h2,h3⟩:=HOK.out rfl
  have HE:=hide h1
  have HV:=hide h2
  obtain ⟨v,hv⟩:∃ v,altP cs cs.length = v:=⟨_,rfl⟩
  rw [hv] at HV HD h3
  have hnw:IntKind.i64.wrap (-v) = -v:=by rw [IntKind.wrap_i64];omega
  have c0:=BP.out.cell 0
  have c1:=BP.out.cell 1
  simp at c0 c1
  clear h1 h2 hv HOK HBAD
  go_wp2_with fail
  refine (HEV.out _ P pn pc SP.out).mono ?_
  rintro e w3 ⟨rfl,hb⟩
  rw [HE.out,HV.out]
  replace HW:=hide (HW.out.trans (hb.mono HW.out.size))
  clear hb c0 c1 SP BP HE HV
  by_cases hs:v < -v
  · have HDD:Hid (dd = -v):=hide (by rw [HD.out];omega)
    clear HD
    go_wp2_with fail
    go_ret2
    rw [HDD.out]
    exact ⟨rfl,HW.out⟩
  · have HDD:Hid (dd = v):=hide (by rw [HD.out];omega)
    clear HD
    go_wp2_with fail
    go_ret2
    rw [HDD.out]
    exact ⟨rfl,HW.out⟩
theorem alexC:AlexC where
  poly m A n c xs w ha hm hF := alpoly_any braidC polyC m A n c xs w ha hm hF -- 6
  det m A n c xs w ha hm hF := aldetm_any braidC polyC m A n c xs w ha hm hF -- 7
end Go.Proofs.YtndgffiihbdppaaGreatDoor
namespace Go.Proofs.YtndgffiihbdppaaGreatDoor
set_option linter.unusedVariables false
set_option linter.unusedSimpArgs false

abbrev Cmb:=List (List Nat × LP)
noncomputable def sumO (G:List Nat → LP):Cmb → LP
  | [] => 0
  | p :: o => p.2 * G p.1 + sumO G o
noncomputable def getO:Cmb → List Nat → LP
  | [],_ => 0
  | p :: o,d => if p.1 = d then p.2 else getO o d
noncomputable def putO:Cmb → List Nat → LP → Cmb
  | [],d,q => [(d,q)]
  | p :: o,d,q => if p.1 = d then (d,q) :: o else p :: putO o d q
noncomputable def addOj (o:Cmb) (d:List Nat) (q:LP):Cmb:=putO o d (getO o d + q)
theorem sumO_add (G:List Nat → LP) (d:List Nat) (q:LP):∀ o:Cmb,sumO G (addOj o d q) = sumO G o + q * G d
  | [] => by
    show (0 + q) * G d + 0 = 0 + q * G d
    rw [CR.zero_add,CR.add_comm]
  | p :: o => by
    have ih:=sumO_add G d q o
    unfold addOj at ih ⊢
    unfold putO getO
    by_cases h:p.1 = d
    · rw [if_pos h,if_pos h]
      show (p.2 + q) * G d + sumO G o = p.2 * G p.1 + sumO G o + q * G d
      rw [h,CR.add_mul,CR.add_assoc,CR.add_assoc,CR.add_comm (q * G d)]
    · rw [if_neg h,if_neg h]
      show p.2 * G p.1 + sumO G (putO o d (getO o d + q)) = _
      rw [ih,← CR.add_assoc]
      rfl
theorem sumO_perm (G:List Nat → LP) {a b:Cmb} (h:a.Perm b):sumO G a = sumO G b:=by
  induction h with
  | nil => rfl
  | cons x _ ih => show _ + _ = _ + _;rw [ih]
  | swap x y l =>
    show y.2 * G y.1 + (x.2 * G x.1 + sumO G l) = x.2 * G x.1 + (y.2 * G y.1 + sumO G l)
    rw [← CR.add_assoc,← CR.add_assoc,CR.add_comm (y.2 * G y.1)]
  | trans _ _ h1 h2 => exact h1.trans h2
inductive NmO (E:Nat):Cmb → Nat → Prop
  | nil:NmO E [] 0
  | cons (d:List Nat) (q:LP) (o:Cmb) (v V:Nat):LP.N1 q E v → NmO E o V → NmO E ((d,q) :: o) (v + V)
theorem NmO.mono {E E':Nat} {o:Cmb} {V:Nat} (h:NmO E o V) (he:E ≤ E'):NmO E' o V:=by
  induction h with
  | nil => exact .nil
  | cons d q o v V hq _ ih => exact .cons d q o v V (hq.mono he (Nat.le_refl _)) ih
theorem NmO.inv {E:Nat} {d:List Nat} {q:LP} {o:Cmb} {V:Nat} (h:NmO E ((d,q) :: o) V):∃ v v',LP.N1 q E v ∧ NmO E o v' ∧ v + v' = V:=by
  cases h with
  | cons _ _ _ v V' hq ho => exact ⟨v,V',hq,ho,rfl⟩
theorem NmO.perm {E:Nat} {a b:Cmb} (h:a.Perm b):∀ {V:Nat},NmO E a V → NmO E b V:=by
  induction h with
  | nil => exact fun h => h
  | cons x _ ih =>
    intro V h
    obtain ⟨v,v',h1,h2,rfl⟩:=NmO.inv (d:=x.1) (q:=x.2) h
    exact .cons x.1 x.2 _ _ _ h1 (ih h2)
  | swap x y l =>
    intro V h
    obtain ⟨v,v',h1,h2,rfl⟩:=NmO.inv (d:=y.1) (q:=y.2) h
    obtain ⟨u,u',h3,h4,rfl⟩:=NmO.inv (d:=x.1) (q:=x.2) h2
    have:=NmO.cons x.1 x.2 _ _ _ h3 (NmO.cons y.1 y.2 _ _ _ h1 h4)
    rwa [show u + (v + u') = v + (u + u') by omega] at this
  | trans _ _ h1 h2 => exact fun h => h2 (h1 h)
theorem NmO.get {E:Nat} {o:Cmb} {V:Nat} (h:NmO E o V) (d:List Nat):∃ v,v ≤ V ∧ LP.N1 (getO o d) E v:=by
  induction h with
  | nil => exact ⟨0,Nat.le_refl _,LP.N1.zero.mono (Nat.zero_le _) (Nat.le_refl _)⟩
  | cons e q o v V hq _ ih =>
    unfold getO
    by_cases h:e = d
    · rw [if_pos h];exact ⟨v,by omega,hq⟩
    · rw [if_neg h]
      obtain ⟨u,hu,h1⟩:=ih
      exact ⟨u,by omega,h1⟩
theorem NmO.add {E:Nat} {o:Cmb} {V:Nat} (h:NmO E o V) (d:List Nat) {q:LP} {u:Nat} (hq:LP.N1 q E u):NmO E (addOj o d q) (V + u):=by
  unfold addOj
  induction h with
  | nil =>
    have:=NmO.cons d (0 + q) [] u 0 (by rw [CR.zero_add];exact hq) .nil
    show NmO E [(d,0 + q)] (0 + u)
    rwa [Nat.add_comm 0 u]
  | cons e p o v V hp ho ih =>
    unfold getO putO
    by_cases h:e = d
    · rw [if_pos h,if_pos h]
      have:=NmO.cons d (p + q) o (v + u) V (hp.add hq) ho
      rwa [show v + V + u = v + u + V by omega]
    · rw [if_neg h,if_neg h]
      have:=NmO.cons e p _ v (V + u) hp ih
      rwa [Nat.add_assoc]
theorem putO_keys {d:List Nat} {q:LP}:∀ {o:Cmb} {x:List Nat},x ∈ (putO o d q).map (·.1) → x = d ∨ x ∈ o.map (·.1)
  | [],x,h => .inl (by simpa [putO] using h)
  | p :: o,x,h => by
    unfold putO at h
    by_cases e:p.1 = d
    · rw [if_pos e] at h
      rcases List.mem_cons.1 h with h | h
      · exact .inl h
      · exact .inr (List.mem_cons_of_mem _ h)
    · rw [if_neg e] at h
      rcases List.mem_cons.1 h with h | h
      · exact .inr (by rw [h];exact List.mem_cons_self)
      · rcases putO_keys h with h | h
        · exact .inl h
        · exact .inr (List.mem_cons_of_mem _ h)

/-! ### sums over choices -/
theorem jq_pull {n:Nat} (c:LP):∀ (w:List Int) (F:List (List Nat) → LP),tS n (fun l => c * F l) w = c * tS n F w
  | [],F => rfl
  | x :: w,F => by
    show LP.term _ _ * tS n (fun l => c * F (_ :: l)) w + LP.term _ _ * tS n (fun l => c * F (_ :: l)) w = c * (LP.term _ _ * tS n _ w + LP.term _ _ * tS n _ w)
    rw [jq_pull c w,jq_pull c w,CR.mul_add,← CR.mul_assoc,← CR.mul_assoc,← CR.mul_assoc,← CR.mul_assoc,CR.mul_comm c,CR.mul_comm c]
theorem jq_add4 {R:Type} [CR R] (a b p q r s:R):a * (p + q) + b * (r + s) = (a * p + b * r) + (a * q + b * s):=by
  rw [CR.mul_add,CR.mul_add]
  generalize a * p = x
  generalize a * q = y
  generalize b * r = z
  generalize b * s = t
  rw [CR.add_assoc,CR.add_assoc,← CR.add_assoc y,CR.add_comm y,CR.add_assoc]
theorem jq_plus {n:Nat}:∀ (w:List Int) (F G:List (List Nat) → LP),tS n (fun l => F l + G l) w = tS n F w + tS n G w
  | [],F,G => rfl
  | x :: w,F,G => by
    show LP.term _ _ * tS n (fun l => F (_ :: l) + G (_ :: l)) w + LP.term _ _ * tS n (fun l => F (_ :: l) + G (_ :: l)) w = (LP.term _ _ * tS n _ w + LP.term _ _ * tS n _ w) + (LP.term _ _ * tS n _ w + LP.term _ _ * tS n _ w)
    rw [jq_plus w,jq_plus w,jq_add4]
theorem jq_dlt:∀ a b:Nat,dlt (a + b) = dlt a * dlt b
  | a,0 => (CR.mul_one _).symm
  | a,b + 1 => by
    show dlt (a + b) * _ = dlt a * (dlt b * _)
    rw [jq_dlt a b,CR.mul_assoc]

def Beh (n:Nat) (w:List Int) (o:Cmb):Prop:=∀ G:List Nat → LP,sumO G o = tS n (fun l => dlt (actS n l).2 * G (actS n l).1) w
theorem Beh.nil (n:Nat):Beh n [] (addOj [] (Tl.straight n) (LP.term 0 1)):=fun G => by
  rw [sumO_add]
  show 0 + LP.term 0 1 * G (Tl.straight n) = 1 * G (Tl.straight n)
  rw [CR.zero_add]
  rfl
noncomputable def stepO (n:Nat) (x:Int) (o:Cmb) (d:List Nat) (q:LP):Cmb:=
  addOj (addOj o d (q * LP.term (sgx x) 1)) (Tl.mul n d (Tl.hook n x.natAbs)).1 (q * LP.term (-sgx x) 1 * dlt (Tl.mul n d (Tl.hook n x.natAbs)).2)
noncomputable def backO (n:Nat) (x:Int) (G:List Nat → LP) (d:List Nat):LP:=
  LP.term (sgx x) 1 * G d + LP.term (-sgx x) 1 * (dlt (Tl.mul n d (Tl.hook n x.natAbs)).2 * G (Tl.mul n d (Tl.hook n x.natAbs)).1)
theorem stepO_sum (n:Nat) (x:Int) (o:Cmb) (d:List Nat) (q:LP) (G:List Nat → LP):sumO G (stepO n x o d q) = sumO G o + q * backO n x G d:=by
  unfold stepO backO
  rw [sumO_add,sumO_add,CR.mul_add,CR.add_assoc]
  simp only [CR.mul_assoc]
theorem Beh.snoc {n:Nat} (h1:1 ≤ n) (h6:n ≤ 6) {w:List Int} {o o':Cmb} {x:Int} (h:Beh n w o) (hw:∀ y ∈ w,y ≠ 0 ∧ y.natAbs < n) (hx:x ≠ 0 ∧ x.natAbs < n)
    (hs:∀ G,sumO G o' = sumO (backO n x G) o):Beh n (w ++ [x]) o':=fun G => by
  rw [hs,h,tS_snoc,← jq_pull,← jq_pull,← jq_plus]
  refine tS_congr fun l hl => ?_
  have hwd:=hl.wd hw
  have hp:=actS_plan h1 h6 hwd
  rw [actS_snoc,actS_snoc,(Tl.unit_r h6 hp).1]
  unfold backO
  simp only [Nat.add_zero]
  rw [jq_dlt,CR.mul_add]
  generalize dlt (actS n l).2 = a
  generalize dlt (Tl.mul n (actS n l).1 (Tl.hook n x.natAbs)).2 = b
  generalize G (actS n l).1 = c
  generalize G (Tl.mul n (actS n l).1 (Tl.hook n x.natAbs)).1 = e
  generalize LP.term (sgx x) 1 = p
  generalize LP.term (-sgx x) 1 = q
  rw [← CR.mul_assoc a p,CR.mul_comm a p,CR.mul_assoc p,← CR.mul_assoc a q,CR.mul_comm a q,CR.mul_assoc q,CR.mul_assoc a b]
theorem Beh.closed {n:Nat} (h1:1 ≤ n) (h6:n ≤ 6) {w:List Int} {o:Cmb} (h:Beh n w o) (hw:∀ y ∈ w,y ≠ 0 ∧ y.natAbs < n) (hc:∀ d ∈ Tl.plan n,1 ≤ Tl.cir n d) :
    sumO (fun d => dlt (Tl.cir n d - 1)) o = brk n w:=by
  rw [h]
  unfold brk
  refine tS_congr fun l hl => ?_
  have hp:=actS_plan h1 h6 (hl.wd hw)
  have:=hc _ hp
  unfold lps
  rw [← jq_dlt,show (actS n l).2 + (Tl.cir n (actS n l).1 - 1) = (actS n l).2 + Tl.cir n (actS n l).1 - 1 by omega]

/-! ### bounds of a step -/
theorem NmO.step {E n:Nat} {x:Int} {o:Cmb} {V:Nat} {d:List Nat} {q:LP} {v:Nat} (h:NmO (E + 3) o V) (hq:LP.N1 q E v) (hm:(Tl.mul n d (Tl.hook n x.natAbs)).2 ≤ 1):NmO (E + 3) (stepO n x o d q) (V + 3 * v):=by
  unfold stepO
  have a1:=hq.mul (LP.N1.term (sgx x) 1)
  have a2:=(hq.mul (LP.N1.term (-sgx x) 1)).mul (dlt_n1 (Tl.mul n d (Tl.hook n x.natAbs)).2)
  have e1:(1:Int).natAbs = 1:=rfl
  rw [sgx_abs,e1,Nat.mul_one] at a1
  rw [Int.natAbs_neg,sgx_abs,e1,Nat.mul_one] at a2
  have e2:2 ^ (Tl.mul n d (Tl.hook n x.natAbs)).2 ≤ 2:=Nat.pow_le_pow_right (n:=2) (by omega) hm
  have h2:=(h.add d (a1.mono (by omega) (Nat.le_refl _))).add (Tl.mul n d (Tl.hook n x.natAbs)).1 (a2.mono (E':=E + 3) (by omega) (Nat.mul_le_mul_left v e2))
  rwa [show V + v + v * 2 = V + 3 * v by omega] at h2
end Go.Proofs.YtndgffiihbdppaaGreatDoor
