/- Several texts in one. -/
import Derived.Test.YtndgffiihbdppaaGreatDoorPart20
import Derived.Deep.DeepCutAuto
import Derived.Test.YtndgffiihbdppaaGreatDoorBase1
import Derived.Test.YtndgffiihbdppaaGreatDoorPart1
namespace Go.Proofs.YtndgffiihbdppaaGreatDoor
set_option linter.unusedVariables false
set_option linter.unusedSimpArgs false
open Go.RowKit

def GivesMt (w:World) (n:Nat) (X:Mtx LP) (e:Ending) (w':World):Prop:=∃ A c,e = .returned (.slice A n c) ∧ SPP w' A n c (tabA n X) ∧ Below w.heap.size w w'

set_option maxRecDepth 100000 in
set_option maxHeartbeats 8000000 in
theorem im_any (F:PolyC) (B:Option Addr) (m d:Nat) (pss:List (List Po)) (n:Nat) (X:Mtx LP) (w:World) (hb:SPP w B m d pss) (hnm:n ≤ m) (hn6:n ≤ 6)
    (hX:∀ i,i < n → ∀ j,j < n → (pss.getD i []).getD j (0,[]) = cP (X i j)) (hl:∀ i,i < n → n ≤ (pss.getD i []).length)
    (rX:∀ i,i < n → ∀ j,j < n → LP.Rt (X i j)) (rD:∀ i,i < n → ∀ j,j < n → LP.Rt (oneM i j + -(X i j))) :
    Calls Tryz.prog 16 #[.slice B m d,.int .i64 n] w (GivesMt w n fun i j => oneM i j + -(X i j)):=by
  have r1:∀ i j,LP.Rt ((oneM:Mtx LP) i j):=fun i j => by
    unfold oneM
    split
    · exact LP.N1.one.rt (by omega) (by omega)
    · exact LP.N1.zero.rt (by omega) (by omega)
  obtain ⟨D,hD⟩:∃ D:Mtx LP,(fun i j => oneM i j + -(X i j)) = D:=⟨_,rfl⟩
  have HSB:=hide (fun i (hi:i < n) j (hj:j < n) => (by
    have h:=al_sub F (r1 i j) (rX i hi j hj) (rD i hi j hj)
    have e:oneM i j + -(X i j) = D i j:=congrFun (congrFun hD i) j
    rw [e] at h
    exact h :
    ∀ (w:World) (A:Option Addr) (n c:Nat) (B:Option Addr) (m d:Nat),SL w A n c (LP.canon ((oneM:Mtx LP) i j)).2 → SL w B m d (LP.canon (X i j)).2 → Calls Tryz.prog 34 #[PV (LP.canon ((oneM:Mtx LP) i j)).1 A n c,PV (LP.canon (X i j)).1 B m d] w (GivesPE w (0,(LP.canon (D i j)).1,(LP.canon (D i j)).2))))
  have HRD:Hid (∀ i,i < n → ∀ j,j < n → LP.Rt (D i j)):=hide (by rw [← hD];exact rD)
  rw [hD]
  have HCE:Hid (∀ i,LP.canon ((oneM:Mtx LP) i i) = (0,[1])):=hide (fun i => by
    unfold oneM
    rw [if_pos rfl]
    exact LP.canon_eq (.inr ⟨by simp,by decide,by decide⟩) rfl)
  have HCN:Hid (∀ i j,i ≠ j → LP.canon ((oneM:Mtx LP) i j) = (0,[])):=hide (fun i j h => by
    unfold oneM
    rw [if_neg h]
    exact LP.canon_zero)
  have HB:=hide hb
  have HXX:=hide hX
  have HLL:=hide hl
  obtain ⟨i0,hi0,hz0,hz1,hz2⟩:=info_parts prows_info
  obtain ⟨i1,hi1,hy0,hy1,hy2⟩:=info_parts polys_info
  obtain ⟨ii,hii,hq0,hq1,hq2⟩:=info_parts int_info
  have HI1:=hide hi1
  have HY0:=hide hy0
  have HY1:=hide hy1
  have HY2:=hide hy2
  clear F hb hX hl rX rD hD r1 hi1 hy0 hy1 hy2
  go_enter Tryz.func16,Tryz.ntmps16
  go_wp2_with (at_make;refine wpList_make_full _ rfl _ _ 45 rfl w.heap.size 67 i0 (.slice none 0 0) 1 Tryz.underlying45 hi0 hz0 hz1 .i64 .i64 _ _ n rfl rfl rfl rfl (by rw [hz2];omega) (by unfold maxLen;omega) (Nat.le_refl _) ?_;intro w2 hown2 hg2)
  obtain ⟨G,hG⟩:∃ G,w.heap.size = G:=⟨_,rfl⟩
  have hB2:Below w.heap.size w w2:=(Below.refl _ _).grown hg2 (Nat.le_refl _) (by intro k hk;cases hk)
  have HM2:Hid (GroM w2 G G n 0 none 0 0 [] D):=hide (by rw [← hG];exact GroM.start hown2 (by omega) D)
  have HB2:=hide hB2
  have HG:=hide hG
  rw [hG]
  clear hown2 hg2 hB2 hG hi0 hz0 hz1 hz2
  go_loopw [15] (fun iv wr => ∃ i:Nat,iv = .int .i64 i ∧ i ≤ n ∧ Hid (GroM wr G G n i none 0 0 [] D) ∧ Hid (Below w.heap.size w wr)) (fun iv _ => n - (intOf iv).toNat)
  case atStart => exact ⟨0,rfl,Nat.zero_le _,HM2,HB2⟩
  case round =>
    clear HM2 HB2
    obtain ⟨i,rfl,hi,HM,HW⟩:=hrel
    by_cases hin:i < n
    · have HML:Hid (∃ (R:Option Addr) (c:Nat) (vs:List Value),GroM wr G G n i R 0 c vs D):=hide ⟨none,0,[],HM.out⟩
      have HWL:=HW
      have HIN:=hide hin
      have HII:=hide hi
      rename World => wo
      clear HM HW hi
      go_wp2_with fail
      clear hin
      go_loopw [19] (fun jv wx => ∃ k:Nat,jv = .int .i64 k ∧ k ≤ n ∧ Hid (∃ (R:Option Addr) (c:Nat) (vs:List Value),GroM wx G G n i R k c vs D) ∧ Hid (Below w.heap.size w wx)) (fun jv _ => n - (intOf jv).toNat)
      case atStart => exact ⟨0,rfl,Nat.zero_le _,HML,HWL⟩
      case round =>
        clear HML HWL
        obtain ⟨k,rfl,hk,HM,HW⟩:=hrel
        by_cases hkn:k < n
        · obtain ⟨R,c,vs,hM⟩:=HM.out
          have hin:=HIN.out
          have HG0:Hid (G ≤ wr.heap.size):=hide (Nat.le_of_lt hM.lt)
          have HM1:=hide hM
          clear HM hM
          obtain ⟨bd,Q,qn,qc,hB,q2,sq⟩:=(HB.out.below HW.out).at_ (Nat.lt_of_lt_of_le hin hnm)
          have hjq:k < qn:=by have h1:=HLL.out i hin;rw [sq.len] at h1;omega
          obtain ⟨cd,T,tn,tc,hQ,q3,q4,st,_⟩:=sq.at_ hjq
          rw [HXX.out i hin k hkn] at q3 st
          subst hB
          subst hQ
          rw [show bd.add i = bd.add (i * 1) by rw [Nat.mul_one]] at q2
          dsimp only [cP] at q3 st
          have HSU:=hide (HSB.out i hin k hkn)
          have HRT:=hide (HRD.out i hin k hkn)
          generalize X i k = x at *
          have hb:Below wr.heap.size wr (wr.alloc (.cells #[.int .i64 0,.slice none 0 0] 26)):=(Below.refl _ _).alloc (Nat.le_refl _) _
          have Q2:=hide q2
          have Q3:=hide q3
          have Q4:=hide q4
          have ST:=hide st
          have HWR:=hide hb
          have BI:=hide (Blk.new wr 26 #[.int .i64 0,.slice none 0 0])
          have HJQ:=hide hjq
          have HKM:=hide (Nat.lt_of_lt_of_le hin hnm)
          have HKN:=hide hkn
          clear st sq q2 q3 q4 hb hjq hk hkn
          go_upto_if 24 with fail
          obtain ⟨b8,hq⟩:∃ q,wr.heap.size = q:=⟨_,rfl⟩
          obtain ⟨w1,hw⟩:∃ x,wr.alloc (.cells #[.int .i64 0,.slice none 0 0] 26) = x:=⟨_,rfl⟩
          rw [hw] at HWR BI ⊢
          rw [hq] at BI HWR ⊢
          have HQ8:=hide hq
          clear hw hq
          go_cut [25,26] (fun _ _ wx => ∃ O on oc,Blk wx b8 26 #[.int .i64 0,.slice O on oc] ∧ SL wx O on oc (LP.canon ((oneM:Mtx LP) i k)).2 ∧ Below b8 w1 wx)
          case first =>
            by_cases hik:i = k
            · have ht:((i:Int) == (k:Int)) = true:=by simp [hik]
              have hl:SL (w1.alloc (.cells #[.int .i64 1] 3)) (some ⟨w1.heap.size,0,none⟩) 1 1 [1]:=SL.lit w1 [1] (by decide) rfl rfl
              have hbl:Below w1.heap.size w1 (w1.alloc (.cells #[.int .i64 1] 3)):=(Below.refl _ _).alloc (Nat.le_refl _) _
              have l8:=BI.out.lt
              have B8:=hide (BI.out.below hbl l8)
              have c1:=B8.out.cell 1
              have f1:=B8.out.frozen 1
              simp at c1
              have HLL1:=hide hl
              have HBB:Hid (Below b8 w1 ((w1.alloc (.cells #[.int .i64 1] 3)).setCell ⟨b8,1,none⟩ (.slice (some ⟨w1.heap.size,0,none⟩) 1 1))):=hide ((hbl.mono (Nat.le_of_lt l8)).setCell (p:=⟨b8,1,none⟩) (Nat.le_refl _) _)
              have hbl8:b8 < (w1.alloc (.cells #[.int .i64 1] 3)).heap.size:=B8.out.lt
              have hne:(⟨w1.heap.size,0,none⟩:Addr).block ≠ b8:=by show w1.heap.size ≠ b8;omega
              have HLS:=hide (HLL1.out.setCell (b:=b8) (fun _ ad e => by injection e with e;rw [← e];exact hne) 1 (.slice (some ⟨w1.heap.size,0,none⟩) 1 1))
              have HBS:Hid (Blk ((w1.alloc (.cells #[.int .i64 1] 3)).setCell ⟨b8,1,none⟩ (.slice (some ⟨w1.heap.size,0,none⟩) 1 1)) b8 26 #[.int .i64 0,.slice (some ⟨w1.heap.size,0,none⟩) 1 1]):=hide (B8.out.set_ 1 (.slice (some ⟨w1.heap.size,0,none⟩) 1 1))
              have HEE:Hid ((LP.canon ((oneM:Mtx LP) i k)).2 = [1]):=hide (by rw [← hik,HCE.out])
              clear hl hbl hne l8 hik
              go_wp2_with fail
              go_meet
              exact ⟨_,1,1,HBS.out,by rw [HEE.out];exact HLS.out,HBB.out⟩
            · have ht:((i:Int) == (k:Int)) = false:=by simp;omega
              have HEE:Hid ((LP.canon ((oneM:Mtx LP) i k)).2 = []):=hide (by rw [HCN.out i k hik])
              clear hik
              go_wp2_with fail
              go_meet
              exact ⟨none,0,0,BI.out,by rw [HEE.out];exact SL.nil_ _,Below.refl _ _⟩
          case rest =>
            obtain ⟨O,on,oc,hbk,hsl,hb⟩:=hcut
            have e1:(LP.canon ((oneM:Mtx LP) i k)).1 = 0:=by
              by_cases hik:i = k
              · rw [← hik,HCE.out]
              · rw [HCN.out i k hik]
            have hbw:Below wr.heap.size wr wc:=by rw [HQ8.out];exact HWR.out.trans hb
            have BP:=hide hbk
            have SP:=hide hsl
            have LP0:=hide hbk.lt
            replace ST:=hide (ST.out.below hbw)
            replace HM1:=hide (HM1.out.below hbw)
            replace Q2:=hide ((hbw.cell (p:=bd.add (i * 1)) (cell_lt Q2.out)).trans Q2.out)
            replace Q4:=hide ((hbw.cell (p:=⟨(cd.add (k * 2)).block,(cd.add (k * 2)).off + 1,none⟩) (cell_lt Q4.out)).trans Q4.out)
            replace Q3:=hide ((hbw.cell (p:=cd.add (k * 2)) (cell_lt Q3.out)).trans Q3.out)
            have HL2:=hide (cell_lt Q2.out)
            have HL3:=hide (cell_lt Q3.out)
            replace HWR:=hide hbw
            clear hbk hsl hb BI hbw HQ8
            obtain ⟨g3,o3,h3⟩:=cell_at_var Q3.out
            rw [h3] at Q3 Q4 HL3
            rw [e1] at HSU
            generalize (LP.canon ((oneM:Mtx LP) i k)).2 = os at *
            obtain ⟨xy,hxy⟩:∃ y,D i k = y:=⟨_,rfl⟩
            rw [hxy] at HSU HRT
            have HXY:=hide hxy
            clear hxy
            go_upto_region 11 with fail
            go_cut [9,10,27,28,29,30,31,32,33,34,35,36,37,38] (fun v u _ _ _ _ _ _ _ _ _ _ _ _ wx => ∃ bG U gn gc,v = .pointer (some ⟨bG,0,none⟩) ∧ u = .int .i64 0 ∧ Blk wx bG 26 #[.int .i64 (LP.canon xy).1,.slice U gn gc] ∧ SL wx U gn gc (LP.canon xy).2 ∧ NewA wc U gn ∧ wc.heap.size ≤ bG ∧ Below wc.heap.size wc wx)
            case first =>
              refine wp_region_noPanic ?_
              refine wp_region_held_drew (S:=fun x => Below wc.heap.size wc x) (by kernel_rfl) (Below.refl _ _).drew (fun hS0 => ?_)
              refine wpAnyH_tk 0 (v:=PV 0 O on oc) rfl (by kernel_rfl) (by kernel_rfl) (by kernel_rfl) (yi rfl fun w' hw' => gives_loadRow rfl rfl (BP.out.below hw' LP0.out) Tryz.underlying26 (by kernel_rfl) (by kernel_rfl)) hS0 ?_
              go_frame
              refine wpAnyH_tk 1 (v:=.slice (some bd) m d) rfl (by kernel_rfl) (by kernel_rfl) (by kernel_rfl) (yi rfl fun w' hw' => gives_move (.inl rfl) rfl) hS0 ?_
              go_frame
              refine wpAnyH_tk 2 (v:=.int .i64 i) rfl (by kernel_rfl) (by kernel_rfl) (by kernel_rfl) (yi rfl fun w' hw' => gives_move (.inl rfl) rfl) hS0 ?_
              go_frame
              refine wpAnyH_tk 3 (v:=.pointer (some (bd.add (i * 1)))) rfl (by kernel_rfl) (by kernel_rfl) (by kernel_rfl) (yi rfl fun w' hw' => gives_indexSlice rfl Tryz.underlying45 (fun w => by kernel_rfl) rfl rfl HKM.out) hS0 ?_
              go_frame
              refine wpAnyH_tk 4 (v:=.slice (some cd) qn qc) rfl (by kernel_rfl) (by kernel_rfl) (by kernel_rfl) (yi rfl fun w' hw' => gives_load1 rfl (by kernel_rfl) rfl ((hw'.cell (p:=bd.add (i * 1)) HL2.out).trans Q2.out)) hS0 ?_
              go_frame
              refine wpAnyH_tk 5 (v:=.int .i64 k) rfl (by kernel_rfl) (by kernel_rfl) (by kernel_rfl) (yi rfl fun w' hw' => gives_move (.inl rfl) rfl) hS0 ?_
              go_frame
              refine wpAnyH_tk 6 (v:=.pointer (some (cd.add (k * 2)))) rfl (by kernel_rfl) (by kernel_rfl) (by kernel_rfl) (yi rfl fun w' hw' => gives_indexSlice rfl Tryz.underlying67 (fun w => by kernel_rfl) rfl rfl HJQ.out) hS0 ?_
              go_frame
              rw [h3]
              refine wpAnyH_tk 7 (v:=PV (LP.canon x).1 T tn tc) rfl (by kernel_rfl) (by kernel_rfl) (by kernel_rfl) (yi rfl fun w' hw' => gives_loadMid (cs:=[.int .i64 (LP.canon x).1,.slice T tn tc]) rfl rfl (rangeAt_two ((hw'.cell (p:=⟨g3,o3,none⟩) HL3.out).trans Q3.out) ((hw'.cell (p:=⟨g3,o3 + 1,none⟩) HL3.out).trans Q4.out)) Tryz.underlying26 (by kernel_rfl) (by kernel_rfl)) hS0 ?_
              go_frame
              refine wpAnyH_2 8 12 rfl rfl (by kernel_rfl) ?_ ?_
              · refine wp_call [PV 0 O on oc,PV (LP.canon x).1 T tn tc] rfl rfl eAlSub rfl ((HSU.out wc.drew O on oc T tn tc (SP.out.below hS0) (ST.out.below hS0)).mono ?_)
                rintro e u1 ⟨U,gn,gc,rfl,hs,hN,hb⟩
                dsimp only at hs ⊢
                have HNW:NewA wc U gn:=fun h ad e => Nat.le_trans hS0.size (hN h ad e)
                have hS1:Below wc.heap.size wc u1:=hS0.trans (hb.mono hS0.size)
                have SG:=hide hs
                clear hb hs
                refine ⟨_,rfl,hS1,?_⟩
                go_frame
                refine wpAnyH_tk 9 (v:=.tuple #[PV (LP.canon xy).1 U gn gc,.int .i64 0]) rfl (by kernel_rfl) (by kernel_rfl) (by kernel_rfl) (yi rfl fun w' hw' => gives_move (.inl rfl) rfl) hS1 ?_
                go_frame
                refine wpAnyH_tk 10 (v:=PV (LP.canon xy).1 U gn gc) rfl (by kernel_rfl) (by kernel_rfl) (by kernel_rfl) (yi rfl fun w' hw' => gives_extract rfl rfl rfl) hS1 ?_
                go_frame
                refine wpAnyH_tk 11 (v:=.int .i64 0) rfl (by kernel_rfl) (by kernel_rfl) (by kernel_rfl) (yi rfl fun w' hw' => gives_extract rfl rfl rfl) hS1 ?_
                go_frame
                refine wpAnyH_1 12 rfl (by kernel_rfl) ?_
                have hS2:Below wc.heap.size wc (u1.alloc (.cells #[.int .i64 0,.slice none 0 0] 26)):=hS1.alloc hS1.size _
                have hb:Below u1.heap.size u1 (u1.alloc (.cells #[.int .i64 0,.slice none 0 0] 26)):=(Below.refl _ _).alloc (Nat.le_refl _) _
                have g_bG:wc.heap.size ≤ u1.heap.size:=hS1.size
                have ne_bG:0 < gn → ∀ ad,U = some ad → ad.block ≠ u1.heap.size:=fun h ad e => by obtain ⟨ad2,e2,hl,_⟩:=SG.out.il.mem h;rw [e] at e2;cases e2;omega
                replace SG:=hide (SG.out.below hb)
                have BG:=hide (Blk.new u1 26 #[.int .i64 0,.slice none 0 0])
                refine wp_alloc (z:=.agg #[.int .i64 0,.slice none 0 0]) (cs:=#[.int .i64 0,.slice none 0 0]) rfl (by kernel_rfl) rfl ⟨hS2,?_⟩
                obtain ⟨bG,hq⟩:∃ q,u1.heap.size = q:=⟨_,rfl⟩
                rw [hq] at BG g_bG ne_bG ⊢
                obtain ⟨u2,hw⟩:∃ x,u1.alloc (.cells #[.int .i64 0,.slice none 0 0] 26) = x:=⟨_,rfl⟩
                rw [hw] at hS2 BG SG ⊢
                clear hb hw hq
                go_frame
                refine wpAnyH_1 13 rfl (by kernel_rfl) ?_
                have hS3:Below wc.heap.size wc (u2.setRow bG #[.int .i64 (LP.canon xy).1,.slice U gn gc]):=Below.setRow_ hS2 g_bG _
                refine wp_storeRow rfl rfl rfl BG.out (by kernel_rfl) rfl (by kernel_rfl) ⟨hS3,?_⟩
                replace SG:=hide (SG.out.setRow_ ne_bG #[.int .i64 (LP.canon xy).1,.slice U gn gc])
                have hbk2:Blk (u2.setRow bG #[.int .i64 (LP.canon xy).1,.slice U gn gc]) bG 26 #[.int .i64 (LP.canon xy).1,.slice U gn gc]:=setRow_heap _ _ _ _ _ _ BG.out
                replace BG:=hide hbk2
                clear hbk2
                go_frame
                refine wpAnyH_tk 14 (v:=.int .i64 0) rfl (by kernel_rfl) (by kernel_rfl) (by kernel_rfl) (yi rfl fun w' hw' => gives_move (.inr rfl) rfl) hS3 ?_
                go_frame
                refine wpAnyH_done (by kernel_rfl) (noPanic_mk ?_) _
                have hNN:NewA wc U gn:=HNW
                go_wp2_with fail
                go_meet
                exact ⟨bG,U,gn,gc,rfl,rfl,BG.out,SG.out,hNN,g_bG,hS3⟩
              · have hS4:Below wc.heap.size wc (wc.drew.alloc (.cells #[.int .i64 0,.slice none 0 0] 26)):=hS0.alloc hS0.size _
                have hb:Below wc.drew.heap.size wc.drew (wc.drew.alloc (.cells #[.int .i64 0,.slice none 0 0] 26)):=(Below.refl _ _).alloc (Nat.le_refl _) _
                have g_bG:wc.heap.size ≤ wc.drew.heap.size:=hS0.size
                have BG:=hide (Blk.new wc.drew 26 #[.int .i64 0,.slice none 0 0])
                refine wp_alloc (z:=.agg #[.int .i64 0,.slice none 0 0]) (cs:=#[.int .i64 0,.slice none 0 0]) rfl (by kernel_rfl) rfl ⟨hS4,?_⟩
                obtain ⟨bG,hq⟩:∃ q,wc.drew.heap.size = q:=⟨_,rfl⟩
                rw [hq] at BG g_bG  ⊢
                obtain ⟨u4,hw⟩:∃ x,wc.drew.alloc (.cells #[.int .i64 0,.slice none 0 0] 26) = x:=⟨_,rfl⟩
                rw [hw] at hS4 BG ⊢
                clear hb hw hq
                go_frame
                refine wpAnyH_1 8 rfl (by kernel_rfl) ?_
                refine wp_call [PV 0 O on oc,PV (LP.canon x).1 T tn tc] rfl rfl eAlSub rfl ((HSU.out u4 O on oc T tn tc (SP.out.below hS4) (ST.out.below hS4)).mono ?_)
                rintro e u5 ⟨U,gn,gc,rfl,hs,hN,hb⟩
                dsimp only at hs ⊢
                have HNW:NewA wc U gn:=fun h ad e => Nat.le_trans hS4.size (hN h ad e)
                have hS5:Below wc.heap.size wc u5:=hS4.trans (hb.mono hS4.size)
                have ne_bG:0 < gn → ∀ ad,U = some ad → ad.block ≠ bG:=fun h ad e => by have:=hN h ad e;have:=BG.out.lt;omega
                replace BG:=hide (BG.out.below hb BG.out.lt)
                have SG:=hide hs
                clear hb hs
                refine ⟨_,rfl,hS5,?_⟩
                go_frame
                refine wpAnyH_tk 9 (v:=.tuple #[PV (LP.canon xy).1 U gn gc,.int .i64 0]) rfl (by kernel_rfl) (by kernel_rfl) (by kernel_rfl) (yi rfl fun w' hw' => gives_move (.inl rfl) rfl) hS5 ?_
                go_frame
                refine wpAnyH_tk 10 (v:=PV (LP.canon xy).1 U gn gc) rfl (by kernel_rfl) (by kernel_rfl) (by kernel_rfl) (yi rfl fun w' hw' => gives_extract rfl rfl rfl) hS5 ?_
                go_frame
                refine wpAnyH_tk 11 (v:=.int .i64 0) rfl (by kernel_rfl) (by kernel_rfl) (by kernel_rfl) (yi rfl fun w' hw' => gives_extract rfl rfl rfl) hS5 ?_
                go_frame
                refine wpAnyH_1 13 rfl (by kernel_rfl) ?_
                have hS6:Below wc.heap.size wc (u5.setRow bG #[.int .i64 (LP.canon xy).1,.slice U gn gc]):=Below.setRow_ hS5 g_bG _
                refine wp_storeRow rfl rfl rfl BG.out (by kernel_rfl) rfl (by kernel_rfl) ⟨hS6,?_⟩
                replace SG:=hide (SG.out.setRow_ ne_bG #[.int .i64 (LP.canon xy).1,.slice U gn gc])
                have hbk2:Blk (u5.setRow bG #[.int .i64 (LP.canon xy).1,.slice U gn gc]) bG 26 #[.int .i64 (LP.canon xy).1,.slice U gn gc]:=setRow_heap _ _ _ _ _ _ BG.out
                replace BG:=hide hbk2
                clear hbk2
                go_frame
                refine wpAnyH_tk 14 (v:=.int .i64 0) rfl (by kernel_rfl) (by kernel_rfl) (by kernel_rfl) (yi rfl fun w' hw' => gives_move (.inr rfl) rfl) hS6 ?_
                go_frame
                refine wpAnyH_done (by kernel_rfl) (noPanic_mk ?_) _
                have hNN:NewA wc U gn:=HNW
                go_wp2_with fail
                go_meet
                exact ⟨bG,U,gn,gc,rfl,rfl,BG.out,SG.out,hNN,g_bG,hS6⟩
            case rest =>
              obtain ⟨bG,U,gn,gc,rfl,rfl,hbk,hsl,hnw,hbg,hb⟩:=hcut
              rename World => wp
              have hM:=HM1.out
              have hz:SLK (fun b => Fr [some G,ob R] b ∧ b < wp.heap.size) wp U gn gc (LP.canon xy).2:=hM.far hsl hnw
              have hM2:=hM.below hb
              have hW2:=HW.out.trans ((HWR.out.trans (hb.mono HWR.out.size)).mono HW.out.size)
              have hneG:=hM2.ne
              have hlG:=hM2.lt
              have hcG:=hM2.cell HIN.out
              have hkeep:ob R ≠ some bG:=fun e => by
                have:=(hM.own.lt bG (by rw [ob_own];exact e)).2
                omega
              have HKP:=hide hkeep
              have BG:=hide hbk
              have LB:=hide hbk.lt
              have HM3:=hide hM2
              have HSZ:=hide hz
              have HNG:=hide hneG
              have HLG:=hide hlG
              have HCG:=hide hcG
              have HW3:=hide hW2
              have HIN2:=HIN
              have HWF:=hide HRT.out.wf
              have HGW:Hid (w.heap.size ≤ G):=hide (by rw [HG.out];exact Nat.le_refl _)
              have hGw:G ≤ wp.heap.size:=Nat.le_of_lt hlG
              have hin:=HIN.out
              have hkn:=HKN.out
              clear hM hz hM2 hneG hlG hcG hkeep hbk hsl hnw hbg hb hW2 BP SP LP0 ST Q2 Q3 Q4 HL2 HL3 HSU HJQ HKM HWR h3 HM1 HW HRT
              go_upto_region 12 with fail
              refine wp_region_T (S:=fun z => SameK (fun b => b < wp.heap.size ∧ ob R ≠ some b) wp z) 10 (by kernel_rfl) (fun b _ => rfl) (fun hS => ?_)
              refine wpT_tk 0 (v:=.slice (some ⟨G,0,none⟩) n n) rfl (by kernel_rfl) (by kernel_rfl) (by kernel_rfl) (by kernel_rfl) (yi rfl fun w' hw' => gives_move (.inl rfl) rfl) hS ?_
              go_frame
              refine wpT_tk 1 (v:=.int .i64 i) rfl (by kernel_rfl) (by kernel_rfl) (by kernel_rfl) (by kernel_rfl) (yi rfl fun w' hw' => gives_move (.inl rfl) rfl) hS ?_
              go_frame
              refine wpT_tk 2 (v:=.slice (some ⟨G,0,none⟩) n n) rfl (by kernel_rfl) (by kernel_rfl) (by kernel_rfl) (by kernel_rfl) (yi rfl fun w' hw' => gives_move (.inl rfl) rfl) hS ?_
              go_frame
              refine wpT_tk 3 (v:=.int .i64 i) rfl (by kernel_rfl) (by kernel_rfl) (by kernel_rfl) (by kernel_rfl) (yi rfl fun w' hw' => gives_move (.inl rfl) rfl) hS ?_
              go_frame
              refine wpT_tk 4 (v:=.pointer (some ⟨G,i,none⟩)) rfl (by kernel_rfl) (by kernel_rfl) (by kernel_rfl) (by kernel_rfl) (yi rfl fun w' hw' => gives_idxG rfl Tryz.underlying45 (fun _ => by kernel_rfl) rfl rfl hin) hS ?_
              go_frame
              refine wpT_tk 5 (v:=.slice R k c) rfl (by kernel_rfl) (by kernel_rfl) (by kernel_rfl) (by kernel_rfl) (yi rfl fun w' hw' => gives_load1 rfl (by kernel_rfl) rfl ((hw'.cell (a:=⟨G,i,none⟩) ⟨HLG.out,HNG.out⟩).trans HCG.out)) hS ?_
              go_frame
              refine wpT_tk 6 (v:=PV (LP.canon xy).1 U gn gc) rfl (by kernel_rfl) (by kernel_rfl) (by kernel_rfl) (by kernel_rfl) (yi rfl fun w' hw' => gives_loadRow rfl rfl ((hw' bG ⟨LB.out,HKP.out⟩).trans BG.out) Tryz.underlying26 (by kernel_rfl) (by kernel_rfl)) hS ?_
              go_frame
              have hdr:Below wp.heap.size wp wp.drew:=(Below.refl _ _).drew
              have HSK:∀ w',(∀ b,b < wp.drew.heap.size → w'.heap[b]? = wp.drew.heap[b]?) → SameK (fun b => b < wp.heap.size ∧ ob R ≠ some b) wp w':=fun w' h b hb => h b hb.1
              have HSZ9:wp.heap.size ≤ (wp.drew.alloc (.cells #[.int .i64 (LP.canon xy).1,.slice U gn gc] 26)).heap.size:=by rw [World.size_alloc];exact Nat.le_succ _
              have hMd:=HM3.out.below hdr
              have hzd:SLK (fun b => Fr [some G,ob R] b ∧ b < wp.drew.heap.size) wp.drew U gn gc (LP.canon xy).2:=(HSZ.out.keep ((SameK.below hdr).mono fun b hb2 => hb2.2) hdr.size).mono fun b _ h3 => ⟨h3.1,Nat.lt_of_lt_of_le h3.2 hdr.size⟩
              have hWd:=HW3.out.trans (hdr.mono HW3.out.size)
              have hlit:Below wp.drew.heap.size wp.drew (wp.drew.alloc (.cells #[.int .i64 (LP.canon xy).1,.slice U gn gc] 26)):=(Below.refl _ _).alloc (Nat.le_refl _) _
              have hM4:=hMd.below hlit
              have hz4:SLK (fun b => Fr [some G,ob R] b ∧ b < (wp.drew.alloc (.cells #[.int .i64 (LP.canon xy).1,.slice U gn gc] 26)).heap.size) (wp.drew.alloc (.cells #[.int .i64 (LP.canon xy).1,.slice U gn gc] 26)) U gn gc (LP.canon xy).2:=(hzd.keep ((SameK.below hlit).mono fun b hb2 => hb2.2) hlit.size).mono fun b _ h3 => ⟨h3.1,Nat.lt_of_lt_of_le h3.2 hlit.size⟩
              have hb4:=hWd.trans (hlit.mono hWd.size)
              have blit:=Blk.new wp.drew 26 #[.int .i64 (LP.canon xy).1,.slice U gn gc]
              refine wpT_1 7 rfl (by kernel_rfl) ?_
              refine wp_buildSlice_at (cells:=#[.int .i64 (LP.canon xy).1,.slice U gn gc]) (l:=[(0,.tmp 45)]) i1 (.agg #[.int .i64 0,.slice none 0 0]) 2 [(0,PV (LP.canon xy).1 U gn gc)] rfl Tryz.underlying67 HI1.out HY0.out HY1.out (by decide) (by decide) rfl (by simp [Instr.fill,Value.cells,show Array.range (1 * 2) = #[0,1] from rfl]) ?_
              refine ⟨fun _ => HSK _ hlit.block,?_⟩
              go_frame
              refine wpT_1 8 rfl (by kernel_rfl) ?_
              refine wp_append_G (.tmp 44) (.tmp 46) 67 rfl G 26 i1 (.agg #[.int .i64 0,.slice none 0 0]) 2 32 Tryz.underlying67 HI1.out HY0.out HY1.out HY2.out rfl (by omega) (by omega) R k c vs rfl hM4.own ⟨wp.drew.heap.size,0,none⟩ 1 1 [.int .i64 (LP.canon xy).1,.slice U gn gc] rfl rfl (cells_pair blit) (by simp [Value.oneCell']) (by omega) (Nat.le_of_lt hM4.lt) ?_
              intro R9 c9 w9 happ
              have hM9:=hM4.put HXY.out hin hz4 HWF.out happ
              have hcell9:w9.cell? ⟨G,i,none⟩ = some (.slice R k c):=by
                have h1:=hM4.cell hin
                rw [← h1]
                refine World.cell?_of_block (a:=⟨G,i,none⟩) (happ.grown.block G hM4.lt (fun e => hM4.ne ?_))
                rw [ownBlock_len R (k + 1) k c c,ob_own] at e
                exact e.symm
              have hgrow:Below w.heap.size w w9:=hb4.grown happ.grown hb4.size (fun b hb => by
                rw [ownBlock_len R (k + 1) k c c] at hb
                exact Nat.le_trans HGW.out (hM4.own.lt b hb).1)
              have hfr:w9.frozen? ⟨G,i,none⟩ = false:=by
                obtain ⟨cs,hcs⟩:=hM4.blk
                have h2:Blk w9 G 67 cs:=(happ.grown.block G hM4.lt (fun e => hM4.ne (by rw [ownBlock_len R (k + 1) k c c,ob_own] at e;exact e.symm))).trans hcs
                exact h2.frozen i
              have hS9:SameK (fun b => b < wp.heap.size ∧ ob R ≠ some b) wp w9:=fun b hb => by
                have h1:=HSK _ hlit.block b hb
                rw [← h1]
                refine happ.grown.block b (Nat.lt_of_lt_of_le hb.1 HSZ9) (fun e => hb.2 ?_)
                rw [ownBlock_len R (k + 1) k c c,ob_own] at e
                exact e.symm
              refine ⟨fun _ => hS9,?_⟩
              go_frame
              refine wpT_tk 9 (v:=.pointer (some ⟨G,i,none⟩)) rfl (by kernel_rfl) (by kernel_rfl) (by kernel_rfl) (by kernel_rfl) (yi rfl fun w' hw' => gives_idxG rfl Tryz.underlying45 (fun _ => by kernel_rfl) rfl rfl hin) hS9 ?_
              go_frame
              refine wpT_1 10 rfl (by kernel_rfl) ?_
              refine wp_storeS rfl (by kernel_rfl) (by kernel_rfl) rfl rfl hcell9 hfr ?_
              refine ⟨fun h => absurd rfl h,?_⟩
              go_frame
              refine wpT_done (by kernel_rfl) (noPanic_mk ?_) _
              have HM5:Hid (∃ (R:Option Addr) (c:Nat) (vs:List Value),GroM (w9.setCell ⟨G,i,none⟩ (.slice R9 (k + 1) c9)) G G n i R (k + 1) c vs D):=hide ⟨_,_,_,hM9⟩
              have HW5:Hid (Below w.heap.size w (w9.setCell ⟨G,i,none⟩ (.slice R9 (k + 1) c9))):=hide (hgrow.setCell (p:=⟨G,i,none⟩) HGW.out _)
              clear hMd hzd hWd hS hdr HSK HSZ9 hlit hM4 hz4 hb4 blit hM9 hcell9 hgrow hfr hS9 happ HM3 HSZ BG LB HCG HNG HLG HKP HWF HGW HW3
              go_wp2_with fail
              go_roundw
              case rel => exact ⟨k + 1,by go_num,by omega,HM5,HW5⟩
              case measure => simp [intOf];omega
        · have hke:k = n:=by omega
          subst hke
          obtain ⟨R,c,vs,hM⟩:=HM.out
          have HN:=hide (hM.next HIN.out)
          have hin:=HIN.out
          clear HM hM
          go_wp2_with fail
          go_roundw
          case rel => exact ⟨i + 1,by go_num,by omega,HN,HW⟩
          case measure => simp [intOf];omega
    · have hie:i = n:=by omega
      subst hie
      have HS:=hide (HM.out.spp (by omega))
      clear HM
      go_wp2_with fail
      go_ret
      exact ⟨_,_,rfl,HS.out,HW.out⟩
end Go.Proofs.YtndgffiihbdppaaGreatDoor
namespace Go.Proofs.YtndgffiihbdppaaGreatDoor
set_option linter.unusedVariables false
set_option linter.unusedSimpArgs false
open Go.RowKit

theorem SL.half_h {w:World} {A:Option Addr} {n c h:Nat} {xs:List Int} (ha:SL w A n c xs) (h2:h ≤ n):SL w (cutA A 0 c) h c (xs.take h):=by
  have:=ha.il.cut (l:=0) (h:=h) (by omega) h2 ha.cap
  rw [Nat.sub_zero,List.drop_zero] at this
  refine ⟨this,fun e => ?_,by have:=ha.cap;omega⟩
  have e2:A = none:=by
    unfold cutA at e
    split at e
    · exact e
    · cases A with
      | none => rfl
      | some a => simp at e
  have:=ha.nil e2
  omega
theorem SL.half_l {w:World} {A:Option Addr} {n c h:Nat} {xs:List Int} (ha:SL w A n c xs) (h2:h ≤ n):SL w (cutA A h c) (n - h) (c - h) (xs.drop h):=by
  have h1:=ha.il.cut (l:=h) (h:=n) h2 (Nat.le_refl _) ha.cap
  rw [List.take_of_length_le (by rw [List.length_drop,ha.il.len];exact Nat.le_refl _)] at h1
  refine ⟨h1,fun e => ?_,by have:=ha.cap;omega⟩
  have e2:A = none:=by
    unfold cutA at e
    split at e
    · exact e
    · cases A with
      | none => rfl
      | some a => simp at e
  have:=ha.nil e2
  omega
end Go.Proofs.YtndgffiihbdppaaGreatDoor
