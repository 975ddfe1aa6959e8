/- Several texts in one. -/
import Derived.Test.YtndgffiihbdppaaGreatDoorPart8
import Derived.Test.YtndgffiihbdppaaGreatDoorPart7
import Derived.BigRegion
import Derived.Test.YtndgffiihbdppaaGreatDoorBase1
import Derived.Deep.QuietTactic
import Derived.BigQuiet
import Derived.Test.YtndgffiihbdppaaGreatDoorPart2
import Derived.Test.YtndgffiihbdppaaGreatDoorPart1
import Derived.Test.YtndgffiihbdppaaGreatDoorPart5
import Derived.Deep.DeepCutAuto
import Derived.Test.YtndgffiihbdppaaGreatDoorPart4
namespace Go.Proofs.YtndgffiihbdppaaGreatDoor
set_option linter.unusedVariables false
set_option linter.unusedSimpArgs false
open Go.RowKit

theorem MaI.off {w:World} {base go n k:Nat} {gr:Nat → Nat} {X:Nat → Nat → Int} (h:MaI w base go n gr k X) {b:Nat} (hg:go ≠ b) (hr:∀ i,i < k → gr i ≠ b) (j:Nat) (v:Value):MaI (w.setCell ⟨b,j,none⟩ v) base go n gr k X:=by
  refine ⟨?_,fun i hi => ?_,fun i hi => ?_,h.ne,h.inj,fun i hi => ?_,h.base_le⟩
  · obtain ⟨cs,hc⟩:=h.blk
    exact ⟨cs,hc.far hg _⟩
  · rw [← h.out i hi]
    exact World.cell?_of_block (w:=w) (a:=⟨go,i,none⟩) (Below.heap_setCell w ⟨b,j,none⟩ _ go hg)
  · have ho:=h.row i hi
    refine ⟨⟨ho.own.1,?_⟩,ho.small⟩
    rcases ho.own.2 with h2 | ⟨b',cap,cur,hv,hb,hh,q⟩
    · exact .inl h2
    · have hbg:b' = gr i:=by
        injection hv with hv
        injection hv with hv
        injection hv with hv
        exact hv.symm
      exact .inr ⟨b',cap,cur,hv,hb,(Below.heap_setCell w ⟨b,j,none⟩ _ b' (by rw [hbg];exact hr i hi)).trans hh,q⟩
  · have:=h.lt i hi
    simpa [World.setCell] using this
theorem OwnI.off {w:World} {base g n c:Nat} {xs:List Int} (h:OwnI w base (some ⟨g,0,none⟩) n c xs) {b:Nat} (hg:g ≠ b) (j:Nat) (v:Value):OwnI (w.setCell ⟨b,j,none⟩ v) base (some ⟨g,0,none⟩) n c xs:=by
  refine ⟨⟨h.own.1,?_⟩,h.small⟩
  rcases h.own.2 with h2 | ⟨b',cap,cur,hv,hb,hh,q⟩
  · exact .inl h2
  · have hbg:b' = g:=by
      injection hv with hv
      injection hv with hv
      injection hv with hv
      exact hv.symm
    exact .inr ⟨b',cap,cur,hv,hb,(Below.heap_setCell w ⟨b,j,none⟩ _ b' (by rw [hbg];exact hg)).trans hh,q⟩
theorem cmp1_sign (x:Int):cmp1 x 0 = x.sign:=by
  unfold cmp1
  rcases Int.lt_trichotomy x 0 with h | h | h
  · rw [if_pos h,Int.sign_eq_neg_one_of_neg h]
  · subst h;rfl
  · rw [if_neg (by omega),if_pos h,Int.sign_eq_one_of_pos h]
theorem zs_set2 (l:List Nat) (i u v:Nat):((zs l).set i (u:Int)).set (i + 1) (v:Int) = zs ((l.set i u).set (i + 1) v):=by
  unfold zs
  rw [List.map_set,List.map_set]
  rfl
theorem lkM_bad {m:Int} {xs:List Int} (h:bfault m xs ≠ 0):lkM m xs = []:=by unfold lkM;rw [if_neg h]
theorem MaI.sll {w:World} {base go n:Nat} {gr:Nat → Nat} {X:Nat → Nat → Int} (h:MaI w base go n gr n X) (hn:n ≤ 1000):SLL w (some ⟨go,0,none⟩) n n ((List.range n).map fun i => (List.range n).map (X i)):=by
  refine ⟨by simp,by omega,fun e => (by cases e),Nat.le_refl _,fun _ => ⟨_,rfl,h.go_lt,fun j hj => ⟨_,_,_,by rw [Addr.add_mid,Nat.zero_add];exact h.out j hj,?_⟩⟩⟩
  rw [show (List.map (fun i => List.map (X i) (List.range n)) (List.range n)).getD j [] = List.map (X j) (List.range n) by simp [List.getD,hj]]
  exact (h.row j hj).sl

set_option maxRecDepth 100000 in
set_option maxHeartbeats 8000000 in
theorem linking_any (m:Int) (A:Option Addr) (n c:Nat) (xs:List Int) (w:World) (ha:SL w A n c xs) (hm:(Lit.int .i64 m).wf = true) :
    Calls Tryz.prog 9 #[.int .i64 m,.slice A n c] w (GivesLK w (bfault m xs) (lkM m xs)):=by
  by_cases h0:bfault m xs = 0
  case neg =>
    have HC:=hide (number_no m A n c xs w ha hm h0)
    rw [lkM_bad h0]
    obtain ⟨f,hf⟩:∃ f,bfault m xs = f:=⟨_,rfl⟩
    rw [hf] at HC h0 ⊢
    have hne:(f != 0) = true:=by simpa using h0
    clear ha hm hf h0
    go_enter Tryz.func9,Tryz.ntmps9
    go_wp2_with fail
    refine HC.out.mono ?_
    rintro e w1 ⟨P,pn,pc,rfl,ho,hb⟩
    have HB:=hide hb
    clear hb ho HC
    go_wp2_with fail
    go_ret2
    exact ⟨none,0,0,rfl,SLL.nil_ _,HB.out⟩
  case pos =>
    obtain ⟨g1,g6,gl,gx⟩:=bfault_zero h0
    obtain ⟨M,rfl⟩:∃ M:Nat,m = M:=⟨m.toNat,by omega⟩
    have hM1:1 ≤ M:=by omega
    have hM6:M ≤ 6:=by omega
    have hok:okB M xs:=fun x h => by have:=gx x h;omega
    have HX:=hide hok
    have HPA:=hide (ends_isP hok)
    have HAL:Hid ((endsL M xs).length = M):=hide (endsL_length M xs)
    have HC:=hide (number_yes M A n c xs w ha hm h0)
    have HLM:=hide (lkM_eq h0)
    have HA:=hide ha.il
    have HXL:Hid (xs.length = n):=hide ha.il.len
    have hn30:n ≤ 30:=by have:=HXL.out;omega
    rw [HLM.out,h0]
    have HAT:Hid ((List.range M).map (lkAt (endsL M xs)) = atK M (endsL M xs) []):=hide (by have h:=atK_start HAL.out;rwa [HAL.out] at h)
    rw [HAT.out] at HC
    have HLE:Hid (∀ i k,lkE M xs i k = (lkSum M (endsL M xs) i k [] xs).tdiv 2):=hide fun i k => rfl
    obtain ⟨a,haa⟩:∃ a,endsL M xs = a:=⟨_,rfl⟩
    rw [haa] at HC HPA HAL HLE ⊢
    have hK6:(prtL a).length ≤ 6:=by have:=prtL_le a;rw [HAL.out] at this;omega
    obtain ⟨K,hK⟩:∃ K,(prtL a).length = K:=⟨_,rfl⟩
    have HK:=hide hK
    rw [hK] at HC hK6 ⊢
    clear ha hm h0 g1 g6 gl gx hok haa hK HLM HAT
    obtain ⟨i0,hi0,hz0,hz1,hz2⟩:=info_parts int_info
    obtain ⟨i1,hj0,hk0,hk1,hk2⟩:=info_parts slice_info
    have HI0:=hide hi0
    have HY0:=hide hz0
    have HY1:=hide hz1
    have HY2:=hide hz2
    clear hi0 hz0 hz1 hz2
    go_enter Tryz.func9,Tryz.ntmps9
    go_wp2_with fail
    refine HC.out.mono ?_
    rintro e w1 ⟨P,pn,pc,rfl,ho,hb⟩
    have hpn:M = pn:=by have:=ho.len;rw [zs_length,atK_length] at this;exact this
    subst hpn
    obtain ⟨gp,rfl,hgp,hgp1⟩:=ho.form (by omega)
    have HO1:=hide ho
    have HW1:=hide hb
    have hs1:=hb.size
    clear hb ho HC
    go_wp2_with (at_make;refine wpList_make_full _ rfl _ _ 33 rfl w1.heap.size 23 i1 (.slice none 0 0) 1 Tryz.underlying33 hj0 hk0 hk1 .i64 .i64 _ _ K rfl rfl rfl rfl (by rw [hk2];omega) (by unfold maxLen;omega) (Nat.le_refl _) ?_;intro w3 hown3 hg3)
    have hB3:Below w1.heap.size w1 w3:=(Below.refl _ _).grown hg3 (Nat.le_refl _) (by intro k hk;cases hk)
    have ho3:=ownV_zero hown3 (by omega)
    obtain ⟨gm,hgm⟩:∃ g,w1.heap.size = g:=⟨_,rfl⟩
    rw [hgm] at ho3 hB3 hs1 hgp1 ⊢
    have HM:=hide (MaI.start (n:=K) ho3 (fun _ _ => 0))
    have HCs:Hid (∀ i,i < K → ∃ v,w3.cell? ⟨gm,i,none⟩ = some v):=hide (fun i hi => by
      obtain ⟨g',e,hc⟩:=ho3.cellAt hi
      injection e with e
      injection e with e
      subst e
      exact ⟨_,hc.trans (by rw [List.getElem?_replicate,if_pos hi])⟩)
    have HB:=hide hB3
    have HGM:=hide hgm
    clear hown3 hg3 hB3 ho3 hgm hj0 hk0 hk1 hk2
    go_loopw [34] (fun iv wr => ∃ (k:Nat) (gr:Nat → Nat),iv = .int .i64 k ∧ k ≤ K ∧ Hid (MaI wr gm gm K gr k (fun _ _ => 0)) ∧ Hid (∀ i,i < K → ∃ v,wr.cell? ⟨gm,i,none⟩ = some v) ∧ Hid (Below gm w1 wr)) (fun iv _ => K - (intOf iv).toNat)
    case atStart => exact ⟨0,_,by go_num,Nat.zero_le _,HM,HCs,HB⟩
    case round =>
      clear HM HCs HB
      obtain ⟨k,gr,rfl,hk,HM,HCs,HB⟩:=hrel
      by_cases hlt:k < K
      · obtain ⟨v,hv⟩:=HCs.out k hlt
        obtain ⟨cs9,hcs9⟩:=HM.out.blk
        have HK9:=hide hcs9
        have HV:=hide hv
        have hbw:gm ≤ wr.heap.size:=by have:=HM.out.go_lt;omega
        clear hcs9 hv
        go_wp2_with (at_make;refine wpList_make_full _ rfl _ _ 23 rfl wr.heap.size 3 i0 (.int .i64 0) 1 Tryz.underlying23 HI0.out HY0.out HY1.out .i64 .i64 _ _ K rfl rfl rfl rfl (by rw [HY2.out];omega) (by unfold maxLen;omega) (Nat.le_refl _) ?_;intro w4 hown4 hg4;have hb4:Below wr.heap.size wr w4:=(Below.refl _ _).grown hg4 (Nat.le_refl _) (by intro k hk;cases hk);have hv4:=(hb4.cell (p:=⟨gm,k,none⟩) HK9.out.lt).trans HV.out;have hf4:=(HK9.out.below hb4 HK9.out.lt).frozen k)
        have ho4:=OwnI.zero (z:=#[]) hown4 (by omega)
        have HM4:=hide (HM.out.push (g:=wr.heap.size) hb4 (Nat.le_refl _) (by rw [map_zero];exact ho4.mono hbw) (ho4.lt _ rfl).2 hbw HV.out)
        have HC4:Hid (∀ i,i < K → ∃ v,(w4.setCell ⟨gm,k,none⟩ (.slice (some ⟨wr.heap.size,0,none⟩) K K)).cell? ⟨gm,i,none⟩ = some v):=hide (fun i hi => by
          by_cases e:i = k
          · subst e
            exact ⟨_,World.cell?_setCell_same w4 _ _ hv4⟩
          · rw [World.cell?_setCell_other w4 _ _ _ (by intro h2;simp only [Addr.mk.injEq] at h2;omega)]
            obtain ⟨v',hv'⟩:=HCs.out i hi
            exact ⟨v',(hb4.cell (p:=⟨gm,i,none⟩) HK9.out.lt).trans hv'⟩)
        have HB4:=hide ((HB.out.trans (hb4.mono hbw)).setCell (p:=⟨gm,k,none⟩) (Nat.le_refl _) (.slice (some ⟨wr.heap.size,0,none⟩) K K))
        clear hown4 hg4 hb4 hv4 hf4 ho4 HM HB HCs HV HK9
        go_roundw
        case rel => exact ⟨k + 1,_,by go_num,by omega,HM4,HC4,HB4⟩
        case measure => simp [intOf];omega
      · have hkK : k = K := by omega
        rw [hkK] at HM
        have HO:=hide (HO1.out.below (by rw [HGM.out];exact HB.out))
        replace HB:=hide (HW1.out.trans (HB.out.mono hs1))
        clear hkK HCs HO1 HW1 HGM
        rename World => w5
        have HM0:Hid (MaI w5 gm gm K gr K (fun i j => lkSum M a i j [] (xs.take 0))):=HM
        have HO0:Hid (OwnI w5 w.heap.size (some ⟨gp,0,none⟩) M pc (zs (atK M a (xs.take 0)))):=HO
        have HNE:Hid (∀ i,i < K → gr i ≠ gp):=hide fun i hi e => by have:=HM.out.base_le.2 i hi;omega
        clear HM HO
        go_wp2_with fail
        go_loopw [45] (fun iv wr => ∃ k:Nat,iv = .int .i64 k ∧ k ≤ n ∧ Hid (MaI wr gm gm K gr K (fun i j => lkSum M a i j [] (xs.take k))) ∧ Hid (OwnI wr w.heap.size (some ⟨gp,0,none⟩) M pc (zs (atK M a (xs.take k)))) ∧ Hid (Below w.heap.size w wr)) (fun iv _ => n - (intOf iv).toNat)
        case atStart => exact ⟨0,by go_num,Nat.zero_le _,HM0,HO0,HB⟩
        case round =>
          clear HM0 HO0 HB
          obtain ⟨k,rfl,hk,HM,HO,HB⟩:=hrel
          by_cases hlt2:k < n
          · obtain ⟨ad,rfl,hc⟩:=(HA.out.below HB.out).at_ hlt2
            have hxm:xs.getD k 0 ∈ xs:=by
              have hkl:k < xs.length:=by rw [HXL.out];exact hlt2
              rw [List.getD,List.getElem?_eq_getElem hkl]
              exact List.getElem_mem hkl
            have hxk:=HX.out _ hxm
            obtain ⟨x,hxx⟩:∃ x,xs.getD k 0 = x:=⟨_,rfl⟩
            rw [hxx] at hc hxk
            have HTK:Hid (xs.take (k + 1) = xs.take k ++ [x]):=hide (by
              have hkl:k < xs.length:=by rw [HXL.out];exact hlt2
              rw [List.take_succ_eq_append_getElem hkl,← hxx]
              simp [List.getD,List.getElem?_eq_getElem hkl])
            have hokT:okB M (xs.take k):=fun y hy => HX.out y (List.mem_of_mem_take hy)
            obtain ⟨j,hj⟩:∃ j,x.natAbs = j + 1:=⟨x.natAbs - 1,by omega⟩
            have hjM:j + 1 < M:=by omega
            have hps:lkAt a (lkS M (xs.take k) j) < K:=by rw [← HK.out];exact lkAt_lt HPA.out (by rw [HAL.out];exact lkS_lt hokT (by omega))
            have hpt:lkAt a (lkS M (xs.take k) (j + 1)) < K:=by rw [← HK.out];exact lkAt_lt HPA.out (by rw [HAL.out];exact lkS_lt hokT hjM)
            have hc0:=HO.out.cell (j:=j) (by omega)
            have hc1:=HO.out.cell (j:=j + 1) hjM
            rw [zs_getD,atK_getD (by omega)] at hc0
            rw [zs_getD,atK_getD hjM] at hc1
            have HNA:=hide (atK_step (a:=a) (u:=xs.take k) hxk.1 hj hjM)
            rw [← HTK.out,atK_getD hjM,atK_getD (show j < M by omega)] at HNA
            have HCC:Hid (∀ i i',lkSum M a i i' [] (xs.take (k + 1)) = lkSum M a i i' [] (xs.take k) + ((if lkAt a (lkS M (xs.take k) j) = i ∧ lkAt a (lkS M (xs.take k) (j + 1)) = i' then x.sign else 0) + (if lkAt a (lkS M (xs.take k) (j + 1)) = i ∧ lkAt a (lkS M (xs.take k) j) = i' then x.sign else 0))):=hide fun i i' => by
              rw [HTK.out,lkSum_snoc,List.nil_append]
              unfold lkC1
              rw [hj,show j + 1 - 1 = j by omega]
            obtain ⟨s,hs⟩:∃ s,lkAt a (lkS M (xs.take k) j) = s:=⟨_,rfl⟩
            obtain ⟨t,ht⟩:∃ t,lkAt a (lkS M (xs.take k) (j + 1)) = t:=⟨_,rfl⟩
            rw [hs] at hps hc0 HNA HCC
            rw [ht] at hpt hc1 HNA HCC
            have hsg:=sign_odd hxk.1
            have hwx:IntKind.i64.wrap (-x) = -x:=by rw [IntKind.wrap_i64];omega
            have HMX:Hid (max x (-x) = ((j:Int) + 1)):=hide (by omega)
            have HCM:=hide (fun w => cmp_any x 0 w)
            rw [cmp1_sign] at HCM
            obtain ⟨sg,hsgg⟩:∃ y,x.sign = y:=⟨_,rfl⟩
            rw [hsgg] at hsg HCM HCC
            have hbd:=fun i j => lkSum_bd (n:=M) (a:=a) i j (xs.take k) []
            have hlk:(xs.take k).length ≤ 30:=by rw [List.length_take];omega
            obtain ⟨V,hV⟩:∃ V:Nat → Nat → Int,(fun i j => lkSum M a i j [] (xs.take k)) = V:=⟨_,rfl⟩
            have HV:Hid (∀ i j,lkSum M a i j [] (xs.take (k + 1)) = V i j + ((if s = i ∧ t = j then sg else 0) + (if t = i ∧ s = j then sg else 0))):=hide fun i j => by
              rw [HCC.out,← hV]
            have hVb:∀ i j,-60 ≤ V i j ∧ V i j ≤ 60:=fun i j => by
              have:=hbd i j
              rw [← hV]
              show -60 ≤ lkSum M a i j [] (xs.take k) ∧ lkSum M a i j [] (xs.take k) ≤ 60
              omega
            rw [hV] at HM
            have HVB:=hide hVb
            have hwj:IntKind.i64.wrap (j:Int) = (j:Int):=by rw [IntKind.wrap_i64];omega
            have hwj1:IntKind.i64.wrap ((j:Int) + 1) = (j:Int) + 1:=by rw [IntKind.wrap_i64];omega
            clear hs ht hsgg hbd hlk hV HCC HTK hxx hxm hxk hj hokT hVb
            go_upto_region 14 with ((with_reducible show wpList _ _ _ (Oper.mk _ (.call { callee:=.builtin .max,args:=_,argTypes:=_ }) _ _ _ _ :: _) _ _);refine wpList_gives rfl (gives_maxI rfl rfl rfl HMX.out) ?_)
            go_region
            go_upto_region 15 with fail
            have hwd:Below w.heap.size w wr.drew:=HB.out.drew
            replace HM:=hide (HM.out.below (show Below wr.heap.size wr wr.drew from (Below.refl _ _).drew))
            replace HO:=hide HO.out.drew
            replace HB:=hide hwd
            clear hwd hc0 hc1 hc
            generalize wr.drew = w6 at *
            go_wp2_with fail
            refine (HCM.out _).mono ?_
            rintro e w0 ⟨rfl,hww⟩
            subst hww
            go_upto_region 16 with fail
            have ho1:=HM.out.out s hps
            have hc1:=HM.out.cell hps hpt
            have hf1:=HM.out.frozen hps t
            have hvb:=HVB.out s t
            obtain ⟨v,hv⟩:∃ y,V s t = y:=⟨_,rfl⟩
            rw [hv] at hc1 hvb
            have hadd1:IntKind.i64.wrap (v + sg) = v + sg:=by rw [IntKind.wrap_i64];omega
            have hgs:gm ≤ gr s:=HM.out.base_le.2 s hps
            have hgt:gm ≤ gr t:=HM.out.base_le.2 t hpt
            have HM9:=hide (HM.out.set_ hps hpt (v + sg))
            have HO9:=hide (HO.out.off (b:=gr s) (fun e => HNE.out s hps e.symm) t (.int .i64 (v + sg)))
            have HB9:=hide (HB.out.setCell (p:=⟨gr s,t,none⟩) (Nat.le_trans hs1 hgs) (.int .i64 (v + sg)))
            clear HM HO HB
            go_upto_region 17 with fail
            clear ho1 hc1 hf1
            have HV1:Hid (∀ i j,(if i = s ∧ j = t then v + sg else V i j) = V i j + (if s = i ∧ t = j then sg else 0)):=hide fun i j => by
              by_cases e:s = i ∧ t = j
              · obtain ⟨rfl,rfl⟩:=e
                rw [if_pos ⟨rfl,rfl⟩,if_pos ⟨rfl,rfl⟩,hv]
              · rw [if_neg (fun h => e ⟨h.1.symm,h.2.symm⟩),if_neg e,Int.add_zero]
            obtain ⟨V1,hV1⟩:∃ V1:Nat → Nat → Int,(fun i j => if i = s ∧ j = t then v + sg else V i j) = V1:=⟨_,rfl⟩
            rw [hV1] at HM9
            have HW1:Hid (∀ i j,V1 i j = V i j + (if s = i ∧ t = j then sg else 0)):=hide fun i j => by rw [← hV1];exact HV1.out i j
            have hvb2:-61 ≤ V1 t s ∧ V1 t s ≤ 61:=by
              rw [HW1.out]
              have:=HVB.out t s
              split <;> omega
            obtain ⟨v2,hv2⟩:∃ y,V1 t s = y:=⟨_,rfl⟩
            rw [hv2] at hvb2
            have hadd2:IntKind.i64.wrap (v2 + sg) = v2 + sg:=by rw [IntKind.wrap_i64];omega
            clear hv HV1 hV1 hvb hadd1
            generalize w6.setCell ⟨gr s,t,none⟩ (.int .i64 (v + sg)) = w9 at *
            have ho2:=HM9.out.out t hpt
            have hc2:=HM9.out.cell hpt hps
            have hf2:=HM9.out.frozen hpt s
            rw [hv2] at hc2
            have HMX2:=hide ((HM9.out.set_ hpt hps (v2 + sg)).congr (Y:=fun i j => lkSum M a i j [] (xs.take (k + 1))) fun i hi j hj => by
              show (if i = t ∧ j = s then v2 + sg else V1 i j) = lkSum M a i j [] (xs.take (k + 1))
              rw [HV.out]
              have h1:=HW1.out i j
              by_cases e:t = i ∧ s = j
              · obtain ⟨rfl,rfl⟩:=e
                rw [if_pos (show t = t ∧ s = s from ⟨rfl,rfl⟩),← hv2,h1,Int.add_assoc]
                congr 2
                exact (if_pos ⟨rfl,rfl⟩).symm
              · rw [if_neg (fun h => e ⟨h.1.symm,h.2.symm⟩),if_neg e,h1]
                omega)
            have HOX:=hide (HO9.out.off (b:=gr t) (fun e => HNE.out t hpt e.symm) s (.int .i64 (v2 + sg)))
            have HBX:=hide (HB9.out.setCell (p:=⟨gr t,s,none⟩) (Nat.le_trans hs1 hgt) (.int .i64 (v2 + sg)))
            clear HM9 HO9 HB9 HV HW1 hv2 hvb2
            go_upto_region 18 with fail
            clear ho2 hc2 hf2 hadd2
            generalize w9.setCell ⟨gr t,s,none⟩ (.int .i64 (v2 + sg)) = wx at *
            have hcx0:=HOX.out.cell (j:=j) (by omega)
            have hcx1:=HOX.out.cell (j:=j + 1) hjM
            have hfx0:=HOX.out.frozen j
            have hfx1:=HOX.out.frozen (j + 1)
            have HON:=hide ((HOX.out.set_ j (t:Int)).set_ (j + 1) (s:Int))
            rw [zs_set2,HNA.out] at HON
            have HMN:=hide ((HMX2.out.off (b:=gp) (by omega) HNE.out j (.int .i64 (t:Int))).off (b:=gp) (by omega) HNE.out (j + 1) (.int .i64 (s:Int)))
            have HBN:=hide ((HBX.out.setCell (p:=⟨gp,j,none⟩) hgp (.int .i64 (t:Int))).setCell (p:=⟨gp,j + 1,none⟩) hgp (.int .i64 (s:Int)))
            clear HOX HMX2 HBX HNA
            generalize (zs (atK M a (xs.take k))).getD j 0 = z0 at *
            generalize (zs (atK M a (xs.take k))).getD (j + 1) 0 = z1 at *
            go_wp2_with fail
            go_roundw
            case rel => exact ⟨k + 1,by go_num,by omega,HMN,HON,HBN⟩
            case measure => simp [intOf];omega
          · have HME : Hid (MaI wr gm gm K gr K (fun i j => lkSum M a i j [] xs)) := hide (by
              have h:=HM.out
              rwa [List.take_of_length_le (by rw [HXL.out];omega)] at h)
            clear HM HO HNE
            rename World => w10
            go_wp2_with fail
            go_loopw [96] (fun iv wr => ∃ k:Nat,iv = .int .i64 k ∧ k ≤ K ∧ Hid (MaI wr gm gm K gr K (fun i j => if i < k then (lkSum M a i j [] xs).tdiv 2 else lkSum M a i j [] xs)) ∧ Hid (Below w.heap.size w wr)) (fun iv _ => K - (intOf iv).toNat)
            case atStart => exact ⟨0,by go_num,Nat.zero_le _,hide (HME.out.congr fun i _ j _ => (if_neg (Nat.not_lt_zero _)).symm),HB⟩
            case round =>
              clear HME HB
              obtain ⟨i,rfl,hi,HM,HB⟩:=hrel
              by_cases hlt3:i < K
              · have hoi:=HM.out.out i hlt3
                rename World => w11
                go_wp2_with fail
                go_loopw [102] (fun iv wr => ∃ j:Nat,iv = .int .i64 j ∧ j ≤ K ∧ Hid (MaI wr gm gm K gr K (fun i' j' => if i' < i ∨ i' = i ∧ j' < j then (lkSum M a i' j' [] xs).tdiv 2 else lkSum M a i' j' [] xs)) ∧ Hid (Below w.heap.size w wr)) (fun iv _ => K - (intOf iv).toNat)
                case atStart => exact ⟨0,by go_num,Nat.zero_le _,hide (HM.out.congr fun i' _ j' _ => by simp),HB⟩
                case round =>
                  clear HM HB hoi
                  obtain ⟨j,rfl,hj,HM,HB⟩:=hrel
                  by_cases hjt:j < K
                  · have hc:=HM.out.cell hlt3 hjt
                    rw [if_neg (by omega)] at hc
                    have hbd:=lkSum_bd (n:=M) (a:=a) i j xs []
                    have hxl:=HXL.out
                    have hgi:=HM.out.base_le.2 i hlt3
                    have hfz:=HM.out.frozen hlt3 j
                    obtain ⟨v,hv⟩:∃ y,lkSum M a i j [] xs = y:=⟨_,rfl⟩
                    rw [hv] at hc hbd
                    obtain ⟨u,hu⟩:∃ u,v.tdiv 2 = u:=⟨_,rfl⟩
                    have hub:-60 ≤ u ∧ u ≤ 60:=by
                      have h1:=Int.natAbs_tdiv_le_natAbs v 2
                      rw [hu] at h1
                      omega
                    have hw:IntKind.i64.wrap u = u:=by rw [IntKind.wrap_i64];omega
                    have HM2:=hide ((HM.out.set_ hlt3 hjt u).congr (Y:=fun i' j' => if i' < i ∨ i' = i ∧ j' < j + 1 then (lkSum M a i' j' [] xs).tdiv 2 else lkSum M a i' j' [] xs) fun i' _ j' _ => by
                      show (if i' = i ∧ j' = j then u else if i' < i ∨ i' = i ∧ j' < j then (lkSum M a i' j' [] xs).tdiv 2 else lkSum M a i' j' [] xs) = _
                      by_cases e:i' = i ∧ j' = j
                      · obtain ⟨rfl,rfl⟩:=e
                        rw [if_pos ⟨rfl,rfl⟩,if_pos (by omega),hv,hu]
                      · rw [if_neg e]
                        by_cases e2:i' < i ∨ i' = i ∧ j' < j
                        · rw [if_pos e2,if_pos (by omega)]
                        · rw [if_neg e2,if_neg (by omega)])
                    have HB2:=hide (HB.out.setCell (p:=⟨gr i,j,none⟩) (Nat.le_trans hs1 hgi) (.int .i64 u))
                    clear hbd hv hub HM HB hgi hxl
                    go_wp2_with fail
                    go_roundw
                    case rel => exact ⟨j + 1,by go_num,by omega,HM2,HB2⟩
                    case measure => simp [intOf];omega
                  · have HM3:Hid (MaI wr gm gm K gr K (fun i' j' => if i' < i + 1 then (lkSum M a i' j' [] xs).tdiv 2 else lkSum M a i' j' [] xs)):=hide (HM.out.congr fun i' _ j' hj' => by
                      show (if i' < i ∨ i' = i ∧ j' < j then _ else _) = if i' < i + 1 then _ else _
                      by_cases e:i' < i + 1
                      · rw [if_pos e,if_pos (by omega)]
                      · rw [if_neg e,if_neg (by omega)])
                    clear HM
                    go_wp2_with fail
                    go_roundw
                    case rel => exact ⟨i + 1,by go_num,by omega,HM3,HB⟩
                    case measure => simp [intOf];omega
              · have HML:=hide (HM.out.congr (Y:=fun i' j' => lkE M xs i' j') fun i' hi' j' _ => by
                  show (if i' < i then _ else _) = _
                  rw [if_pos (by omega),HLE.out])
                clear HM
                go_wp2_with fail
                go_ret2
                exact ⟨_,_,_,rfl,HML.out.sll (by omega),HB.out⟩
end Go.Proofs.YtndgffiihbdppaaGreatDoor
namespace Go.Proofs.YtndgffiihbdppaaGreatDoor
set_option linter.unusedVariables false
set_option linter.unusedSimpArgs false

theorem linkC:LinkC where
  link := linking_any -- 9
end Go.Proofs.YtndgffiihbdppaaGreatDoor
namespace Go.Proofs.YtndgffiihbdppaaGreatDoor
set_option linter.unusedVariables false
set_option linter.unusedSimpArgs false
open Go.RowKit

theorem cCol_snoc (m:Int) (w:List Int) (x:Int) (c:List Int):cCol m (w ++ [x]) c = cSt m x (cCol m w c):=by
  rw [cCol_append];rfl

end Go.Proofs.YtndgffiihbdppaaGreatDoor
namespace Go.Proofs.YtndgffiihbdppaaGreatDoor
set_option linter.unusedVariables false
set_option linter.unusedSimpArgs false
open Go.RowKit

set_option maxRecDepth 100000 in
set_option maxHeartbeats 2000000 in
theorem clcheck_any (F:BraidC) (m:Int) (A:Option Addr) (n c:Nat) (xs:List Int) (k:Int) (w:World) (ha:SL w A n c xs) (hm:(Lit.int .i64 m).wf = true) :
    Calls Tryz.prog 19 #[.int .i64 m,.slice A n c,.int .i64 k] w fun e w' => e = .returned (.int .i64 (colE m xs k)) ∧ Below w.heap.size w w':=by
  have HC:=hide (F.check m A n c xs w ha hm)
  clear F ha hm
  unfold colE
  obtain ⟨f,hf⟩:∃ f,bfault m xs = f:=⟨_,rfl⟩
  rw [hf] at HC ⊢
  clear hf
  by_cases h0:f = 0
  · subst h0
    rw [if_neg (by simp)]
    by_cases h1:k < 1
    · rw [if_pos (.inl h1)]
      have d1:decide (k < 1) = true:=decide_eq_true h1
      clear h1
      go_enter Tryz.func19,Tryz.ntmps19
      go_wp2_with fail
      refine HC.out.mono ?_
      rintro e w1 ⟨rfl,hb⟩
      have HB:=hide hb
      clear hb
      go_wp2_with fail
      go_ret
      exact ⟨rfl,HB.out⟩
    · have d1:decide (k < 1) = false:=decide_eq_false h1
      by_cases h2:13 < k
      · rw [if_pos (.inr h2)]
        have d2:decide (13 < k) = true:=decide_eq_true h2
        clear h1 h2
        go_enter Tryz.func19,Tryz.ntmps19
        go_wp2_with fail
        refine HC.out.mono ?_
        rintro e w1 ⟨rfl,hb⟩
        have HB:=hide hb
        clear hb
        go_wp2_with fail
        go_ret
        exact ⟨rfl,HB.out⟩
      · rw [if_neg (by omega)]
        have d2:decide (13 < k) = false:=decide_eq_false h2
        clear h1 h2
        go_enter Tryz.func19,Tryz.ntmps19
        go_wp2_with fail
        refine HC.out.mono ?_
        rintro e w1 ⟨rfl,hb⟩
        have HB:=hide hb
        clear hb
        go_wp2_with fail
        go_ret
        exact ⟨rfl,HB.out⟩
  · rw [if_pos h0]
    have hb0:(f != 0) = true:=by simpa using h0
    clear h0
    go_enter Tryz.func19,Tryz.ntmps19
    go_wp2_with fail
    refine HC.out.mono ?_
    rintro e w1 ⟨rfl,hb⟩
    have HB:=hide hb
    clear hb
    go_wp2_with fail
    go_ret
    exact ⟨rfl,HB.out⟩

set_option maxRecDepth 100000 in
set_option maxHeartbeats 2000000 in
theorem clmirror_any (x a:Int) (k:Nat) (w:World) (h1:0 ≤ x) (h2:x < k) (h3:0 ≤ a) (h4:a < k) (hk:k ≤ 13) :
    Calls Tryz.prog 65 #[.int .i64 x,.int .i64 a,.int .i64 (k:Int)] w fun e w' => e = .returned (.int .i64 ((2 * a - x) % (k:Int))) ∧ w = w':=by
  have w1:IntKind.i64.wrap (2 * a) = 2 * a:=by rw [IntKind.wrap_i64];omega
  have w2:IntKind.i64.wrap (2 * a - x) = 2 * a - x:=by rw [IntKind.wrap_i64];omega
  have w3:IntKind.i64.wrap (2 * a - x + (k:Int)) = 2 * a - x + (k:Int):=by rw [IntKind.wrap_i64];omega
  have hkz:((k:Int) == 0) = false:=by simp;omega
  go_enter Tryz.func65,Tryz.ntmps65
  go_wp2_with fail
  go_ret
  exact ⟨by rw [← Int.add_emod_right (2 * a - x) (k:Int)];rfl,rfl⟩
end Go.Proofs.YtndgffiihbdppaaGreatDoor
namespace Go.Proofs.YtndgffiihbdppaaGreatDoor
set_option linter.unusedVariables false
set_option linter.unusedSimpArgs false
open Go.RowKit

set_option maxRecDepth 100000 in
set_option maxHeartbeats 4000000 in
theorem clprop_any (A:Option Addr) (n c:Nat) (xs:List Int) (B:Option Addr) (m d:Nat) (ys:List Int) (k N:Nat) (w:World) (ha:SL w A n c xs) (hb:SL w B m d ys) (hc:IsC (k:Int) N ys) (hx:∀ x ∈ xs,x ≠ 0 ∧ x.natAbs < N) (hk:k ≤ 13) (hN1:1 ≤ N) (hN:N ≤ 6) :
    Calls Tryz.prog 42 #[.slice A n c,.slice B m d,.int .i64 (k:Int)] w (GivesOwn w (cCol k xs ys)):=by
  have hk1:1 ≤ k:=by have:=hc.col 0 (by omega);omega
  have HC:=hide hc
  have HA:=hide ha
  have HX:=hide hx
  have hmN:m = N:=by have:=hb.il.len;have:=hc.len;omega
  subst hmN
  have HCL:=hide (clone_any B m d ys w hb.il hb.nil)
  have hsm:=ha.il.small
  clear hc ha hx hb
  go_enter Tryz.func42,Tryz.ntmps42
  go_wp2_with fail
  refine HCL.out.mono ?_
  rintro e w1 ⟨D,dn,dc,rfl,ho,hb1⟩
  have hdn:dn = m:=by have:=ho.len;have:=HC.out.len;omega
  subst hdn
  obtain ⟨g,rfl,hg1,hg2⟩:=ho.form (by omega)
  have HO1:Hid (OwnI w1 w.heap.size (some ⟨g,0,none⟩) dn dc (cCol k (xs.take 0) ys)):=hide (by rw [List.take_zero];exact ho)
  have HB1:=hide hb1
  clear ho hb1 hg2 HCL
  go_wp2_with fail
  go_loopw [17] (fun iv wr => ∃ j:Nat,j ≤ n ∧ iv = .int .i64 j ∧ Hid (OwnI wr w.heap.size (some ⟨g,0,none⟩) dn dc (cCol k (xs.take j) ys)) ∧ Hid (Below w.heap.size w wr)) (fun iv _ => n - (intOf iv).toNat)
  case atStart => exact ⟨0,Nat.zero_le _,rfl,HO1,HB1⟩
  case round =>
    clear HO1 HB1
    obtain ⟨j,hj,rfl,HO,HB⟩:=hrel
    by_cases hlt:j < n
    · obtain ⟨ad,rfl,hcl⟩:=(HA.out.below HB.out).il.at_ hlt
      have hjl:j < xs.length:=by rw [HA.out.il.len];exact hlt
      have hmem:=HX.out (xs.getD j 0) (by rw [show xs.getD j 0 = xs[j] by simp [List.getD,List.getElem?_eq_getElem hjl]];exact List.getElem_mem _)
      have HTK:Hid (cCol k (xs.take (j + 1)) ys = cSt k (xs.getD j 0) (cCol k (xs.take j) ys)):=hide (by
        rw [List.take_succ_eq_append_getElem hjl,cCol_snoc];simp [List.getD,List.getElem?_eq_getElem hjl])
      have HCC:Hid (IsC (k:Int) dn (cCol k (xs.take j) ys)):=hide (HC.out.word fun y hy => HX.out y (List.mem_of_mem_take hy))
      obtain ⟨hx0,hx1⟩:=hmem
      clear hjl
      generalize xs.getD j 0 = x at *
      generalize cCol k (xs.take j) ys = cur at *
      obtain ⟨i,hi⟩:∃ i,x.natAbs = i + 1:=⟨x.natAbs - 1,by omega⟩
      have hi1:i + 1 < dn:=by omega
      have hca:=HCC.out.col i (by omega)
      have hcb:=HCC.out.col (i + 1) hi1
      have hc0:=HO.out.cell (j:=i) (by omega)
      have hc1:=HO.out.cell (j:=i + 1) (by omega)
      have hf0:=HO.out.frozen i
      have hf1:=HO.out.frozen (i + 1)
      have hS:cSt (k:Int) x cur = if 0 < x then (cur.set i ((2 * cur.getD i 0 - cur.getD (i + 1) 0) % k)).set (i + 1) (cur.getD i 0) else (cur.set i (cur.getD (i + 1) 0)).set (i + 1) ((2 * cur.getD (i + 1) 0 - cur.getD i 0) % k):=by
        unfold cSt
        rw [hi,Nat.add_sub_cancel]
      obtain ⟨a,hae⟩:∃ a,cur.getD i 0 = a:=⟨_,rfl⟩
      obtain ⟨b,hbe⟩:∃ b,cur.getD (i + 1) 0 = b:=⟨_,rfl⟩
      rw [hae] at hca hc0 hS
      rw [hbe] at hcb hc1 hS
      clear hae hbe
      have hBB:=HB.out
      have HM:Hid (max x (-x) = (i:Int) + 1):=hide (by omega)
      have hwx:IntKind.i64.wrap (-x) = -x:=by rw [IntKind.wrap_i64];omega
      have hwi:IntKind.i64.wrap ((i:Int) + 1 - 1) = (i:Int):=by rw [IntKind.wrap_i64];omega
      have hwi2:(i:Int) + 1 - 1 = (i:Int):=by omega
      have hwi0:IntKind.i64.wrap (i:Int) = (i:Int):=by rw [IntKind.wrap_i64];omega
      by_cases hxp:0 < x
      · rw [if_pos hxp] at hS
        have HN:=hide ((HO.out.set_ i ((2 * a - b) % (k:Int))).set_ (i + 1) (a))
        rw [← hS,← HTK.out] at HN
        have HBN:=hide ((hBB.setCell (p:=⟨g,i,none⟩) hg1 (.int .i64 ((2 * a - b) % (k:Int)))).setCell (p:=⟨g,i + 1,none⟩) hg1 (.int .i64 (a)))
        have HMI:=hide (fun w => clmirror_any (b) (a) k w (by omega) (by omega) (by omega) (by omega) hk)
        obtain ⟨r,hr⟩:∃ r,(2 * a - b) % (k:Int) = r:=⟨_,rfl⟩
        rw [hr] at HN HBN
        simp only [hr] at HMI
        have hxd:decide (0 < x) = true:=decide_eq_true hxp
        clear hS hBB HO HB hr hi hca hcb hxp hx0 hx1
        go_upto_region 6 with ((with_reducible show wpList _ _ _ (Oper.mk _ (.call { callee:=.builtin .max,args:=_,argTypes:=_ }) _ _ _ _ :: _) _ _);refine wpList_gives rfl (gives_maxI rfl rfl rfl HM.out) ?_)
        go_region
        have ed0:wr.drew.cell? ⟨g,i,none⟩ = some (.int .i64 a):=hc0
        have ed1:wr.drew.cell? ⟨g,i + 1,none⟩ = some (.int .i64 b):=hc1
        have ef0:wr.drew.frozen? ⟨g,i,none⟩ = false:=hf0
        have ef1:wr.drew.frozen? ⟨g,i + 1,none⟩ = false:=hf1
        go_wp2_with fail
        refine (HMI.out _).mono ?_
        rintro e w3 ⟨rfl,hww⟩
        subst hww
        go_wp2_with fail
        go_roundw
        case rel => exact ⟨j + 1,by omega,by go_num,hide HN.out.drew,hide HBN.out.drew⟩
        case measure => simp [intOf];omega
      · rw [if_neg hxp] at hS
        have HN:=hide ((HO.out.set_ i (b)).set_ (i + 1) ((2 * b - a) % (k:Int)))
        rw [← hS,← HTK.out] at HN
        have HBN:=hide ((hBB.setCell (p:=⟨g,i,none⟩) hg1 (.int .i64 (b))).setCell (p:=⟨g,i + 1,none⟩) hg1 (.int .i64 ((2 * b - a) % (k:Int))))
        have HMI:=hide (fun w => clmirror_any (a) (b) k w (by omega) (by omega) (by omega) (by omega) hk)
        obtain ⟨r,hr⟩:∃ r,(2 * b - a) % (k:Int) = r:=⟨_,rfl⟩
        rw [hr] at HN HBN
        simp only [hr] at HMI
        have hxd:decide (0 < x) = false:=decide_eq_false hxp
        clear hS hBB HO HB hr hi hca hcb hxp hx0 hx1
        go_upto_region 6 with ((with_reducible show wpList _ _ _ (Oper.mk _ (.call { callee:=.builtin .max,args:=_,argTypes:=_ }) _ _ _ _ :: _) _ _);refine wpList_gives rfl (gives_maxI rfl rfl rfl HM.out) ?_)
        go_region
        have ed0:wr.drew.cell? ⟨g,i,none⟩ = some (.int .i64 a):=hc0
        have ed1:wr.drew.cell? ⟨g,i + 1,none⟩ = some (.int .i64 b):=hc1
        have ef0:wr.drew.frozen? ⟨g,i,none⟩ = false:=hf0
        have ef1:wr.drew.frozen? ⟨g,i + 1,none⟩ = false:=hf1
        go_wp2_with fail
        refine (HMI.out _).mono ?_
        rintro e w3 ⟨rfl,hww⟩
        subst hww
        go_wp2_with fail
        go_roundw
        case rel => exact ⟨j + 1,by omega,by go_num,hide HN.out.drew,hide HBN.out.drew⟩
        case measure => simp [intOf];omega
    · have hjn:j = n:=by omega
      subst hjn
      rw [List.take_of_length_le (by rw [HA.out.il.len];exact Nat.le_refl _)] at HO
      clear hlt hj
      go_wp2_with fail
      go_ret
      exact ⟨_,_,_,rfl,HO.out,HB.out⟩
end Go.Proofs.YtndgffiihbdppaaGreatDoor
namespace Go.Proofs.YtndgffiihbdppaaGreatDoor
set_option linter.unusedVariables false
set_option linter.unusedSimpArgs false
open CR

def uCol (m:Int) (n t:Nat):List Int:=(List.replicate n 0).set t (1 % m)
theorem uCol_length (m:Int) (n t:Nat):(uCol m n t).length = n:=by simp [uCol]
theorem uCol_getD {m:Int} {n t j:Nat} (hj:j < n):(uCol m n t).getD j 0 = if j = t then 1 % m else 0:=by
  unfold uCol
  simp only [List.getD,List.getElem?_set,List.length_replicate]
  by_cases e:t = j
  · subst e;simp [hj]
  · rw [if_neg e,if_neg (fun h => e h.symm)]
    simp [hj]
theorem uCol_isC {m:Int} {n t:Nat} (hm:1 ≤ m):IsC m n (uCol m n t):=by
  refine ⟨uCol_length _ _ _,fun j hj => ?_⟩
  rw [uCol_getD hj]
  split
  · exact ⟨Int.emod_nonneg _ (by omega),Int.emod_lt_of_pos _ (by omega)⟩
  · omega
def dEl (m:Int) (n:Nat) (w:List Int) (i t:Nat):Int:=(cCol m w (uCol m n t)).getD i 0 - (uCol m n t).getD i 0
def dMx (m:Int) (n:Nat) (w:List Int):List (List Int):=(List.range n).map fun i => (List.range n).map fun t => dEl m n w i t
theorem dMx_length (m:Int) (n:Nat) (w:List Int):(dMx m n w).length = n:=by simp [dMx]
theorem dMx_row {m:Int} {n i:Nat} (w:List Int) (h:i < n):(dMx m n w).getD i [] = (List.range n).map fun t => dEl m n w i t:=by simp [dMx,List.getD,h]
theorem dEl_cong {m:Int} {n:Nat} {w:List Int} (hw:∀ x ∈ w,x ≠ 0 ∧ x.natAbs < n) {i t:Nat} (hi:i < n) (ht:t < n):m ∣ dEl m n w i t - (kM n w i t - oneM i t):=by
  have h1:=cCol_lin (m:=m) hw (uCol_length m n t) i hi
  have e:(sumN n fun k => kM n w i k * (uCol m n t).getD k 0) = kM n w i t * (1 % m):=by
    rw [sumN_single (k:=t) ht (fun j hj h2 => by rw [uCol_getD hj,if_neg h2];exact Int.mul_zero _),uCol_getD ht,if_pos rfl]
  rw [e] at h1
  have h2:m ∣ 1 % m - 1:=⟨-(1 / m),by
    have h1:=Int.emod_def 1 m
    have h2:=Int.mul_neg m (1 / m)
    omega⟩
  have h3:m ∣ kM n w i t * (1 % m) - kM n w i t:=by
    have:=Int.dvd_mul_of_dvd_right (b:=kM n w i t) h2
    rw [Int.mul_sub,Int.mul_one] at this
    exact this
  have h4:m ∣ (uCol m n t).getD i 0 - oneM i t:=by
    rw [uCol_getD hi]
    show m ∣ _ - (if i = t then (1:Int) else 0)
    split
    · exact h2
    · exact Int.dvd_zero m
  have h5:=Int.dvd_sub (Int.dvd_add h1 h3) h4
  unfold dEl
  generalize (cCol m w (uCol m n t)).getD i 0 = a at *
  generalize (uCol m n t).getD i 0 = b at *
  generalize kM n w i t * (1 % m) = c at *
  generalize kM n w i t = d at *
  generalize (oneM i t:Int) = f at *
  rw [show a - b - (d - f) = a - c + (c - d) - (b - f) by omega]
  exact h5
theorem solB_dMx {m n:Nat} {w:List Int} (hw:∀ x ∈ w,x ≠ 0 ∧ x.natAbs < n) (t:Nat):solB (dMx m n w) m t = solB (cEq n w) m t:=by
  have hr:∀ (r:Nat → Int),dotI ((List.range n).map r) (digI m t) = sumN n fun k => r k * digI m t k:=fun r => by
    unfold dotI
    rw [List.length_map,List.length_range]
    exact sumN_congr fun i hi => by simp [List.getD,hi]
  have key:∀ j,j < n → ((dotI ((List.range n).map fun t => dEl m n w j t) (digI m t) % (m:Int) == 0) = (dotI ((List.range n).map fun k => kM n w j k - oneM j k) (digI m t) % (m:Int) == 0)):=fun j hj => by
    rw [hr,hr]
    have hd:(m:Int) ∣ (sumN n fun k => dEl m n w j k * digI m t k) - sumN n fun k => (kM n w j k - oneM j k) * digI m t k:=by
      rw [← sumN_subI]
      refine dvd_sumN fun i hi => ?_
      rw [← Int.sub_mul]
      exact Int.dvd_mul_of_dvd_left (dEl_cong hw hj hi)
    generalize (sumN n fun k => dEl m n w j k * digI m t k) = a at *
    generalize (sumN n fun k => (kM n w j k - oneM j k) * digI m t k) = b at *
    have he:a % (m:Int) = b % (m:Int):=Int.emod_eq_emod_iff_emod_sub_eq_zero.2 (Int.emod_eq_zero_of_dvd hd)
    rw [he]
  unfold solB dMx cEq
  rw [List.all_map,List.all_map]
  refine Bool.eq_iff_iff.2 ?_
  rw [List.all_eq_true,List.all_eq_true]
  refine ⟨fun h j hj => ?_,fun h j hj => ?_⟩
  · have:=h j hj
    show (dotI _ _ % _ == 0) = true
    rw [← key j (List.mem_range.1 hj)]
    exact this
  · have:=h j hj
    show (dotI _ _ % _ == 0) = true
    rw [key j (List.mem_range.1 hj)]
    exact this
theorem solN_dMx {m n:Nat} {w:List Int} (hm:1 ≤ m) (hw:∀ x ∈ w,x ≠ 0 ∧ x.natAbs < n):solN (dMx m n w) n m = cntC n m w:=by
  rw [cntC_solN hm hw]
  unfold solN
  refine List.countP_congr fun t _ => ?_
  rw [solB_dMx hw]
theorem dEl_le {m n:Nat} {w:List Int} (hm:1 ≤ m) (h13:m ≤ 13) (hw:∀ x ∈ w,x ≠ 0 ∧ x.natAbs < n) {i t:Nat} (hi:i < n):dEl m n w i t ≤ 100 ∧ -100 ≤ dEl m n w i t:=by
  have h1:=((uCol_isC (m:=(m:Int)) (n:=n) (t:=t) (by omega)).word hw).col i hi
  have h2:=(uCol_isC (m:=(m:Int)) (n:=n) (t:=t) (by omega)).col i hi
  unfold dEl
  omega
theorem dMx_fault {m n:Nat} {w:List Int} (hm:1 ≤ m) (h13:m ≤ 13) (h6:n ≤ 6) (hw:∀ x ∈ w,x ≠ 0 ∧ x.natAbs < n):mfault (dMx m n w) = 0:=by
  refine mfault_ok (k:=n) (by rw [dMx_length];exact h6) h6 fun r hr => ?_
  obtain ⟨i,hi,rfl⟩:=List.mem_map.1 hr
  refine ⟨by simp,fun x hx => ?_⟩
  obtain ⟨t,ht,rfl⟩:=List.mem_map.1 hx
  exact dEl_le hm h13 hw (List.mem_range.1 hi)
theorem dMx_sol {m n:Nat} {w:List Int} (hm:1 ≤ m) (h13:m ≤ 13) (h1:1 ≤ n) (h6:n ≤ 6) (hw:∀ x ∈ w,x ≠ 0 ∧ x.natAbs < n):solE (dMx m n w) m = 0 ∧ solV (dMx m n w) m = (cntC n m w:Int):=by
  have he:solE (dMx m n w) m = 0:=by
    unfold solE
    rw [if_pos (dMx_fault hm h13 h6 hw),if_neg (by omega)]
  refine ⟨he,?_⟩
  have hc:colsM (dMx m n w) = n:=by
    unfold colsM
    rw [dMx_row w (by omega)]
    simp
  unfold solV
  rw [if_pos he,Int.toNat_natCast,hc,solN_dMx hm hw]
end Go.Proofs.YtndgffiihbdppaaGreatDoor
namespace Go.Proofs.YtndgffiihbdppaaGreatDoor
set_option linter.unusedVariables false
set_option linter.unusedSimpArgs false
open Go.RowKit

structure MSt (w0 w:World) (A:Option Addr) (n c:Nat) (vs:List Value) (xss:List (List Int)):Prop where
  own:OwnV w w0.heap.size A n c vs
  rows:RowsI w w0.heap.size vs xss
  below:Below w0.heap.size w0 w
section
variable {w0 w w':World} {A:Option Addr} {n c:Nat} {vs:List Value} {xss:List (List Int)}
theorem MSt.to (h:MSt w0 w A n c vs xss) (hb:Below w.heap.size w w'):MSt w0 w' A n c vs xss:=
  ⟨h.own.keep (KeepT.below hb),h.rows.keep (KeepT.below hb),h.below.trans (hb.mono h.below.size)⟩
theorem MSt.add {w9:World} {B A9:Option Addr} {m d c9:Nat} {xs:List Int} (h:MSt w0 w A n c vs xss) (hc:OwnI w w0.heap.size B m d xs)
    (happ:AppendedV (w.alloc (.cells #[.slice B m d] 23)) w0.heap.size A (n + 1) c (vs ++ [.slice B m d]) A9 c9 w9):MSt w0 w9 A9 (n + 1) c9 (vs ++ [.slice B m d]) (xss ++ [xs]):=by
  have hblk:∀ g,(Value.slice A (n + 1) c).ownBlock = some g → w0.heap.size ≤ g ∧ g < w.heap.size ∧ ∃ (cs:Array Value),w.heap[g]? = some (.cells cs 23 (0,0)):=by
    intro g hg
    rw [ownBlock_len A (n + 1) n c c] at hg
    obtain ⟨h1,h2⟩:=h.own.lt g hg
    refine ⟨h1,h2,?_⟩
    rcases h.own.own.2 with ⟨hv,_⟩ | ⟨g',cap,cur,hv,_,hh,_⟩
    · rw [hv] at hg;cases hg
    · rw [hv] at hg
      injection hg with hg
      subst hg
      exact ⟨cur,hh⟩
  have k3:KeepT 3 w w9:=(KeepT.alloc w _).trans (KeepT.grown happ.grown (fun g hg => by
    obtain ⟨_,h2,cs,h3⟩:=hblk g hg
    exact ⟨23,cs,(Below.heap_alloc w _ g h2).trans h3,by decide⟩))
  exact ⟨happ.own,(h.rows.keep k3).snoc (k3.ownI hc),(h.below.alloc h.below.size _).grown happ.grown (Nat.le_trans h.below.size (by simp)) (fun g hg => (hblk g hg).1)⟩
theorem MSt.len (h:MSt w0 w A n c vs xss):xss.length = n:=by rw [← h.rows.len];exact h.own.len
end
theorem rows_info:(Tryz.prog.info? 23).map (fun i => (i.zero,i.size,i.bytes)) = some (some (.slice none 0 0),1,24):=by kernel_rfl
end Go.Proofs.YtndgffiihbdppaaGreatDoor
