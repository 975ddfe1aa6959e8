/- Several texts in one. -/
import Derived.Test.YtndgffiihbdppaaGreatDoorPart6
import Derived.Test.YtndgffiihbdppaaGreatDoorPart1
import Derived.Test.YtndgffiihbdppaaGreatDoorPart5
import Derived.Test.YtndgffiihbdppaaGreatDoorBase1
import Derived.BigRegion
import Derived.Test.YtndgffiihbdppaaGreatDoorPart3
namespace Go.Proofs.YtndgffiihbdppaaGreatDoor
set_option linter.unusedVariables false
set_option linter.unusedSimpArgs false
open Go.RowKit

theorem ownI_apart {w:World} {base n c:Nat} {A:Option Addr} {xs:List Int} (h:OwnI w base A n c xs) {p:Addr} (hg:p.block < base) (u:Value):OwnI (w.setCell p u) base A n c xs:=by
  refine ⟨⟨h.own.1,?_⟩,h.small⟩
  rcases h.own.2 with h2 | ⟨b,cap,cur,hv,hb,hh,r⟩
  · exact .inl h2
  · exact .inr ⟨b,cap,cur,hv,hb,(Below.heap_setCell w p u b (by omega)).trans hh,r⟩
theorem torP_len (k:Nat):(torP k).length = k:=by simp [torP]
theorem torP_take {k j:Nat} (h:j < k):(torP k).take j ++ [1 - 2 * (((k - 1 - j) % 2:Nat):Int)] = (torP k).take (j + 1):=by
  have hl:=torP_len k
  have e:(torP k)[j]'(by omega) = 1 - 2 * (((k - 1 - j) % 2:Nat):Int):=by simp [torP]
  rw [← e,List.take_append_getElem]
set_option maxRecDepth 100000 in
set_option maxHeartbeats 8000000 in
theorem topTorus_any (F:AlexC) (FJ:JonesC) (FC:ColC) (FL:LinkC) (kk mm:Int) (w:World) (hTb:TabW w) :
    Calls Tryz.prog 3 #[.int .i64 kk,.int .i64 mm] w fun e w' => e = .returned (.bool true) ∧ Below w.heap.size w w':=by
  have HT:=hide (trefoil_t F FJ FC)
  have HTB:=hide hTb
  clear hTb
  have HF:=hide F
  have HFC:=hide FC
  have HFL:=hide FL
  obtain ⟨i0,hi0,hz0,hz1,hz2⟩:=info_parts int_info
  have HI0:=hide hi0
  have HZ0:=hide hz0
  have HZ1:=hide hz1
  have HZ2:=hide hz2
  clear F FJ FC FL hi0 hz0 hz1 hz2
  have hk1:=Int.emod_nonneg kk (show (20:Int) ≠ 0 by omega)
  have hk2:=Int.emod_lt_of_pos kk (show (0:Int) < (20:Int) by omega)
  have hm1:=Int.emod_nonneg mm (show (13:Int) ≠ 0 by omega)
  have hm2:=Int.emod_lt_of_pos mm (show (0:Int) < (13:Int) by omega)
  obtain ⟨k,hk⟩:∃ k:Nat,(k:Int) = 1 + kk % 20:=⟨(1 + kk % 20).toNat,by omega⟩
  obtain ⟨m,hm⟩:∃ m:Nat,(m:Int) = 1 + mm % 13:=⟨(1 + mm % 13).toNat,by omega⟩
  have HMK:Hid (∀ w,Calls Tryz.prog 4 #[.int .i64 kk,.int .i64 20] w fun e w' => e = .returned (.int .i64 ((k:Int) - 1)) ∧ w = w'):=hide (fun w => by
    have h:=mbelow_any kk 20 w (by omega) (by omega)
    rw [show ((20:Nat):Int) = 20 from rfl,show kk % 20 = (k:Int) - 1 by omega] at h
    exact h)
  have HMM:Hid (∀ w,Calls Tryz.prog 4 #[.int .i64 mm,.int .i64 13] w fun e w' => e = .returned (.int .i64 ((m:Int) - 1)) ∧ w = w'):=hide (fun w => by
    have h:=mbelow_any mm 13 w (by omega) (by omega)
    rw [show ((13:Nat):Int) = 13 from rfl,show mm % 13 = (m:Int) - 1 by omega] at h
    exact h)
  have k1:1 ≤ k:=by omega
  have k20:k ≤ 20:=by omega
  have m1:1 ≤ m:=by omega
  have m13:m ≤ 13:=by omega
  clear hk1 hk2 hm1 hm2 hk hm
  have HTP:=hide (tor_poly k1 k20)
  have hlen:(List.replicate k (1:Int)).length ≤ 30:=by simp;omega
  have HCE:Hid (colE 2 (List.replicate k 1) (m:Int) = 0):=hide (colE_ok (n:=2) (by omega) (by omega) (tor_ok k) hlen m1 m13)
  obtain ⟨cg,hcg⟩:∃ z:Nat,m * Nat.gcd k m = z:=⟨_,rfl⟩
  have HCV:Hid (colV 2 (List.replicate k 1) (m:Int) = (cg:Int)):=hide (by
    have h:=colV_ok (n:=2) (by omega) (by omega) (tor_ok k) hlen m1 m13
    rw [tor_col k20 m1 m13,hcg] at h
    exact h)
  have HCG:=hide hcg
  clear hcg
  have HBF:Hid (bfault 2 (List.replicate k 1) = 0):=hide (bfault_ok (n:=2) (by omega) (by omega) hlen fun y hy => by have:=tor_ok k y hy;omega)
  have HLK:=hide (tor_lk k1 k20)
  have HWM:=hide (wfI (x:=(m:Int)) (by omega))
  have w1k:IntKind.i64.wrap (1 + ((k:Int) - 1)) = (k:Int):=by rw [IntKind.wrap_i64];omega
  have w1m:IntKind.i64.wrap (1 + ((m:Int) - 1)) = (m:Int):=by rw [IntKind.wrap_i64];omega
  clear hlen
  go_enter Tryz.func3,Tryz.ntmps3
  go_wp2_with fail
  refine (HMK.out _).mono ?_
  rintro e w0 ⟨rfl,hww⟩
  subst hww
  go_wp2_with fail
  refine (HMM.out _).mono ?_
  rintro e w0 ⟨rfl,hww⟩
  subst hww
  clear HMK HMM
  have HW:=hide ((Below.refl w.heap.size w).alloc (Nat.le_refl _) (.cells #[.int .i64 1] 3))
  have HL:Hid (SL (w.alloc (.cells #[.int .i64 1] 3)) (some ⟨w.heap.size,0,none⟩) 1 1 [1]):=hide (SL.lit w [1] (by simp) rfl (m:=1) rfl)
  go_wp2_with fail
  refine (repeat_any _ 1 1 k [1] _ HL.out.il (by omega) (by omega) (by omega)).mono ?_
  rintro e w1 ⟨X,xn,xc,rfl,ho,hb⟩
  replace HW:=hide (HW.out.trans (hb.mono HW.out.size))
  rw [rep_single] at ho
  have SX:=hide ho.sl
  clear hb ho HL w1k w1m
  obtain ⟨xs,hxs⟩:∃ xs,List.replicate k (1:Int) = xs:=⟨_,rfl⟩
  rw [hxs] at HTP HCE HCV HBF HLK SX
  clear hxs
  go_wp2_with fail
  refine (HF.out.poly 2 X xn xc xs _ SX.out (by decide) alF_2).mono ?_
  rintro e w11 ⟨P,pn,pc,rfl,hs,hn,hb⟩
  replace HW:=hide (HW.out.trans (hb.mono HW.out.size))
  replace SX:=hide (SX.out.below hb)
  dsimp only at hs ⊢
  rw [HTP.out.1]
  rw [HTP.out.2.1] at hs
  have SP:=hide hs
  clear hb hs hn
  go_upto_region 4 with fail
  have hb:Below w11.heap.size w11 (w11.alloc (.cells #[.int .i64 0,.slice P pn pc] 26)):=(Below.refl _ _).alloc (Nat.le_refl _) _
  have BP:=hide (Blk.new w11 26 #[.int .i64 0,.slice P pn pc])
  replace HW:=hide (HW.out.trans (hb.mono HW.out.size))
  replace SX:=hide (SX.out.below hb)
  replace SP:=hide (SP.out.below hb)
  obtain ⟨bP,hq⟩:∃ q,w11.heap.size = q:=⟨_,rfl⟩
  obtain ⟨w12,hw⟩:∃ x,w11.alloc (.cells #[.int .i64 0,.slice P pn pc] 26) = x:=⟨_,rfl⟩
  rw [hw] at BP HW SX SP ⊢
  rw [hq] at BP  ⊢
  clear hb hw hq
  go_wp2_with fail
  refine (HF.out.det 2 X xn xc xs _ SX.out (by decide) alF_2).mono ?_
  rintro e w13 ⟨rfl,hb⟩
  replace HW:=hide (HW.out.trans (hb.mono HW.out.size))
  replace SX:=hide (SX.out.below hb)
  replace SP:=hide (SP.out.below hb)
  replace BP:=hide (BP.out.below hb BP.out.lt)
  rw [HTP.out.1,HTP.out.2.2]
  clear hb
  go_wp2_with fail
  refine (HFC.out.count 2 X xn xc xs (m:Int) _ SX.out (HTB.out.below HW.out) (by decide) HWM.out).mono ?_
  rintro e w14 ⟨rfl,hb⟩
  replace HW:=hide (HW.out.trans (hb.mono HW.out.size))
  replace SX:=hide (SX.out.below hb)
  replace SP:=hide (SP.out.below hb)
  replace BP:=hide (BP.out.below hb BP.out.lt)
  rw [HCE.out,HCV.out]
  clear hb
  go_wp2_with fail
  refine (HFL.out.link 2 X xn xc xs _ SX.out (by decide)).mono ?_
  rintro e w15 ⟨L,ln,lc,rfl,hs,hb⟩
  replace HW:=hide (HW.out.trans (hb.mono HW.out.size))
  replace SX:=hide (SX.out.below hb)
  replace SP:=hide (SP.out.below hb)
  replace BP:=hide (BP.out.below hb BP.out.lt)
  rw [HBF.out]
  rw [HLK.out] at hs
  have SLK:=hide hs
  clear hb hs HTP HCE HCV HBF HLK HF HFC HFL HWM
  go_upto_region 8 with fail
  obtain ⟨b,hbq⟩:∃ q,w15.heap.size = q:=⟨_,rfl⟩
  have HB:Hid (Below b w15 (w15.alloc (.cells #[.int .i64 0,.slice none 0 0] 26))):=hide (by rw [← hbq];exact (Below.refl _ _).alloc (Nat.le_refl _) _)
  have BV:=hide (Blk.new w15 26 #[.int .i64 0,.slice none 0 0])
  have hz9:(w15.alloc (.cells #[.int .i64 0,.slice none 0 0] 26)).heap.size = b + 1:=by rw [World.size_alloc,hbq]
  obtain ⟨w9,hw⟩:∃ x,w15.alloc (.cells #[.int .i64 0,.slice none 0 0] 26) = x:=⟨_,rfl⟩
  rw [hw] at HB BV hz9 ⊢
  rw [hbq] at BV ⊢
  have HQ:=hide hbq
  have HZ9:Hid (b + 1 ≤ w9.heap.size):=hide (by omega)
  clear hw hbq hz9 SX
  go_wp2_with fail
  go_loopw [51] (fun iv wr => ∃ (j c5:Nat) (A5:Option Addr),iv = .int .i64 j ∧ j ≤ k ∧ Hid (Blk wr b 26 #[.int .i64 0,.slice A5 j c5]) ∧ Hid (OwnI wr (b + 1) A5 j c5 ((torP k).take j)) ∧ Hid (Below b w15 wr) ∧ Hid (b + 1 ≤ wr.heap.size)) (fun iv _ => k - (intOf iv).toNat)
  case atStart => exact ⟨0,0,none,by go_num,Nat.zero_le _,BV,hide (OwnI.nil_ _ _),HB,HZ9⟩
  case round =>
    obtain ⟨j,c5,A5,rfl,hjk,hbv,hown,hb8,hsz⟩:=hrel
    by_cases hj:j < k
    · have hv1:=hbv.out.cell 1
      simp at hv1
      obtain ⟨o,ho⟩:∃ o:Nat,(k - 1 - j) % 2 = o:=⟨_,rfl⟩
      have ho2:o < 2:=by omega
      have f1:IntKind.i64.wrap ((k:Int) - 1) = (k:Int) - 1:=by rw [IntKind.wrap_i64];omega
      obtain ⟨q,hq⟩:∃ q:Nat,k - 1 - j = q:=⟨_,rfl⟩
      have f2:IntKind.i64.wrap ((k:Int) - 1 - (j:Int)) = (q:Int):=by rw [IntKind.wrap_i64];omega
      have f3:bits BinOp.and IntKind.i64 (q:Int) 1 = (o:Int):=by rw [i64_and1];omega
      have f4:IntKind.i64.wrap (2 * (o:Int)) = 2 * (o:Int):=by rw [IntKind.wrap_i64];omega
      have f5:IntKind.i64.wrap (1 - 2 * (o:Int)) = 1 - 2 * (o:Int):=by rw [IntKind.wrap_i64];omega
      have HTK:Hid ((torP k).take j ++ [1 - 2 * (o:Int)] = (torP k).take (j + 1)):=hide (by rw [← ho];exact torP_take hj)
      have hszo:=hsz.out
      have hoc:=hown.out
      clear ho hq HB BV
      go_upto_region 11 with fail
      go_upto_region 12 with (first | (at_builtin;refine wpList_append_int _ rfl (.tmp 55) (.tmp 63) 23 rfl (b + 1) i0 Tryz.underlying23 HI0.out HZ0.out HZ1.out HZ2.out A5 j c5 ((torP k).take j) rfl (hoc.alloc _) (some ⟨wr.heap.size,0,none⟩) 1 1 [1 - 2 * (o:Int)] rfl (IL.lit wr [1 - 2 * (o:Int)] (by simp) rfl rfl) (by omega) (Nat.le_trans hszo (by simp)) ?_;intro A9 c9 w9 happ;rw [HTK.out] at happ;have HAP:=hide happ;have hbb:=hide ((((Below.refl (b + 1) wr).alloc hszo (.cells #[.int .i64 (1 - 2 * (o:Int))] 3))).grown happ.grown (Nat.le_trans hszo (by simp)) (fun g hg => (hoc.lt g (by rw [ownBlock_len A5 j (j + 1) c5 c5];exact hg)).1));have hb9:=hide (hbv.out.below hbb.out (Nat.lt_succ_self b));have hc9:=hb9.out.cell 1;have hf9:=hb9.out.frozen 1;have hl9:=hb9.out.lt;simp at hc9;clear happ))
      have hown9:=hide (ownI_apart HAP.out.own (p:=⟨b,1,none⟩) (Nat.lt_succ_self b) (.slice A9 (j + 1) c9))
      have hbv9:Hid (Blk (w9.setCell ⟨b,1,none⟩ (.slice A9 (j + 1) c9)) b 26 #[.int .i64 0,.slice A9 (j + 1) c9]):=hide (by
        have h:=hb9.out.set_ 1 (.slice A9 (j + 1) c9)
        simpa using h)
      have HB9:=hide ((hb8.out.trans (hbb.out.mono (Nat.le_succ b))).setCell (p:=⟨b,1,none⟩) (Nat.le_refl b) (.slice A9 (j + 1) c9))
      have hsz9:Hid (b + 1 ≤ (w9.setCell ⟨b,1,none⟩ (.slice A9 (j + 1) c9)).heap.size):=hide (by have:=hbv9.out.lt;omega)
      obtain ⟨wz,hwz⟩:∃ x,w9.setCell ⟨b,1,none⟩ (.slice A9 (j + 1) c9) = x:=⟨_,rfl⟩
      rw [hwz] at hown9 hbv9 HB9 hsz9 ⊢
      clear hwz hb9 hc9 hf9 hl9 hbb HAP hbv hown hoc hb8 hszo hsz hv1 f1 f2 f3 f4 f5 HTK ho2
      go_wp2_with fail
      go_roundw
      case rel => exact ⟨j + 1,c9,A9,by go_num,by omega,hbv9,hown9,HB9,hsz9⟩
      case measure => simp [intOf];omega
    · have hjk2:j = k:=by omega
      rw [hjk2] at hbv hown
      have hto:(torP k).take k = torP k:=List.take_of_length_le (by rw [torP_len];exact Nat.le_refl _)
      rw [hto] at hown
      have SV:=hide hown.out.sl
      have hb:=hb8.out
      rw [← HQ.out] at hb
      replace SP:=hide (SP.out.below hb)
      replace BP:=hide (BP.out.below hb BP.out.lt)
      replace SLK:=hide (SLK.out.below hb)
      replace HW:=hide (HW.out.trans (hb.mono HW.out.size))
      have hg0:=HCG.out
      clear hb hb8 hto hown hjk2 HB BV HQ HZ9 hsz HCG
      rename World => wo
      go_wp2_with fail
      go_loopw [16,17] (fun av bv wr => ∃ x y:Nat,av = .int .i64 x ∧ bv = .int .i64 y ∧ x ≤ 20 ∧ y ≤ 20 ∧ Hid (m * Nat.gcd x y = cg) ∧ Hid (Below wo.heap.size wo wr)) (fun _ bv _ => (intOf bv).toNat)
      case atStart => exact ⟨k,m,rfl,rfl,k20,by omega,hide hg0,hide (Below.refl _ _)⟩
      case round =>
        obtain ⟨x,y,rfl,rfl,hx,hy,hg,hnx⟩:=hrel
        by_cases h0:y = 0
        · subst h0
          have hmx:(m:Int) * (x:Int) = (cg:Int):=by
            have h:=hg.out
            rw [Nat.gcd_zero_right] at h
            rw [← Int.natCast_mul,h]
          have hcl:cg ≤ 260:=by
            have h:=hg.out
            rw [Nat.gcd_zero_right] at h
            rw [← h]
            exact Nat.le_trans (Nat.mul_le_mul m13 hx) (by omega)
          have fm:IntKind.i64.wrap ((m:Int) * (x:Int)) = (cg:Int):=by rw [hmx,IntKind.wrap_i64];omega
          have hb:=hnx.out
          replace SP:=hide (SP.out.below hb)
          replace SV:=hide (SV.out.below hb)
          replace BP:=hide (BP.out.below hb BP.out.lt)
          have BW:=hide (hbv.out.below hb hbv.out.lt)
          replace SLK:=hide (SLK.out.below hb)
          replace HW:=hide (HW.out.trans (hb.mono HW.out.size))
          clear hb hnx hbv hg hcl hx hg0 hmx
          by_cases hpar:k % 2 = 0
          · obtain ⟨h,hh⟩:∃ h:Nat,k / 2 = h:=⟨_,rfl⟩
            have hTL:torL k = [[0,(h:Int)],[(h:Int),0]]:=by unfold torL;rw [if_pos hpar,hh]
            rw [hTL] at SLK
            have hln:2 = ln:=SLK.out.len
            subst hln
            obtain ⟨ad,B0,n0,d0,rfl,hc0,hs0⟩:=SLK.out.at_ (k:=0) (by omega)
            rw [show ad.add 0 = ad by unfold Addr.add;simp] at hc0
            have hl0:2 = n0:=hs0.il.len
            subst hl0
            obtain ⟨ae,rfl,hd0⟩:=hs0.il.at_ (k:=0) (by omega)
            rw [show ae.add 0 = ae by unfold Addr.add;simp] at hd0
            obtain ⟨af,e2,hd1⟩:=hs0.il.at_ (k:=1) (by omega)
            injection e2 with e2
            subst e2
            obtain ⟨g1,o1,hg1⟩:=addr_at hd0
            subst hg1
            rw [show (⟨g1,o1,none⟩:Addr).add 1 = ⟨g1,o1 + 1,none⟩ by rw [Addr.add_mid]] at hd1
            rw [show ([[0,(h:Int)],[(h:Int),0]].getD 0 []).getD 1 0 = (h:Int) from rfl] at hd1
            have q1:(k:Int).tmod 2 = 0:=by
              have e:(k:Int).tmod 2 = ((k % 2:Nat):Int):=rfl
              rw [e,hpar];rfl
            have q2:(k:Int) % 2 = 0:=by omega
            have q3:(k:Int).tdiv 2 = (h:Int):=by
              have e:(k:Int).tdiv 2 = ((k / 2:Nat):Int):=rfl
              rw [e,hh]
            have q4:(k:Int) / 2 = (h:Int):=by omega
            have hh64:IntKind.i64.wrap (h:Int) = (h:Int):=by rw [IntKind.wrap_i64];omega
            clear hd0 hs0 hTL hh hpar
            go_wp2_with fail
            refine (HT.out _ (HTB.out.below HW.out)).mono ?_
            rintro e w20 ⟨rfl,hb⟩
            replace HW:=hide (HW.out.trans (hb.mono HW.out.size))
            replace SP:=hide (SP.out.below hb)
            replace SV:=hide (SV.out.below hb)
            replace BP:=hide (BP.out.below hb BP.out.lt)
            replace BW:=hide (BW.out.below hb BW.out.lt)
            have hp0:=BP.out.cell 0
            have hp1:=BP.out.cell 1
            have hv0:=BW.out.cell 0
            have hv1:=BW.out.cell 1
            simp at hp0 hp1 hv0 hv1
            clear hb hc0 hd1 SLK
            go_wp2_with fail
            refine (same_t 0 P pn pc (torP k) A5 k c5 _ SP.out SV.out).mono ?_
            rintro e w21 ⟨rfl,hb⟩
            replace HW:=hide (HW.out.trans (hb.mono HW.out.size))
            clear hb hp0 hp1 hv0 hv1 SP SV BP BW
            go_wp2_with fail
            go_ret
            exact ⟨rfl,HW.out⟩
          · have hTL:torL k = [[(k:Int)]]:=by unfold torL;rw [if_neg hpar]
            rw [hTL] at SLK
            have hln:1 = ln:=SLK.out.len
            subst hln
            obtain ⟨ad,B0,n0,d0,rfl,hc0,hs0⟩:=SLK.out.at_ (k:=0) (by omega)
            rw [show ad.add 0 = ad by unfold Addr.add;simp] at hc0
            have hl0:1 = n0:=hs0.il.len
            subst hl0
            obtain ⟨ae,rfl,hd0⟩:=hs0.il.at_ (k:=0) (by omega)
            rw [show ae.add 0 = ae by unfold Addr.add;simp] at hd0
            rw [show ([[(k:Int)]].getD 0 []).getD 0 0 = (k:Int) from rfl] at hd0
            have q1:(k:Int).tmod 2 = 1:=by
              have e:(k:Int).tmod 2 = ((k % 2:Nat):Int):=rfl
              rw [e,show k % 2 = 1 by omega];rfl
            have q2:(k:Int) % 2 = 1:=by omega
            clear hs0 hTL hpar
            go_wp2_with fail
            refine (HT.out _ (HTB.out.below HW.out)).mono ?_
            rintro e w20 ⟨rfl,hb⟩
            replace HW:=hide (HW.out.trans (hb.mono HW.out.size))
            replace SP:=hide (SP.out.below hb)
            replace SV:=hide (SV.out.below hb)
            replace BP:=hide (BP.out.below hb BP.out.lt)
            replace BW:=hide (BW.out.below hb BW.out.lt)
            have hp0:=BP.out.cell 0
            have hp1:=BP.out.cell 1
            have hv0:=BW.out.cell 0
            have hv1:=BW.out.cell 1
            simp at hp0 hp1 hv0 hv1
            clear hb hc0 hd0 SLK
            go_wp2_with fail
            refine (same_t 0 P pn pc (torP k) A5 k c5 _ SP.out SV.out).mono ?_
            rintro e w21 ⟨rfl,hb⟩
            replace HW:=hide (HW.out.trans (hb.mono HW.out.size))
            clear hb hp0 hp1 hv0 hv1 SP SV BP BW
            go_wp2_with fail
            go_ret
            exact ⟨rfl,HW.out⟩
        · have hy0:0 < y:=by omega
          have hm:=Nat.mod_lt x hy0
          have HG:Hid (m * Nat.gcd y (x % y) = cg):=by
            rw [← hg.out,Nat.gcd_comm x y,Nat.gcd_rec y x,Nat.gcd_comm];exact rfl
          have he:(x:Int) % (y:Int) = ((x % y:Nat):Int):=(Int.natCast_emod _ _).symm
          clear h0 hg0
          generalize x % y = r at *
          go_wp2_with fail
          go_quiet (fail)
          go_wp2_with fail
          go_roundw
          case rel => exact ⟨y,r,rfl,by rw [he],hy,by omega,HG,hide (below_drewN hnx.out _)⟩
          case measure => simp [intOf];omega
end Go.Proofs.YtndgffiihbdppaaGreatDoor
namespace Go.Proofs.YtndgffiihbdppaaGreatDoor
set_option linter.unusedVariables false
set_option linter.unusedSimpArgs false

/-! ### sums over squares -/
theorem sum_hit {s:Nat} {c:Int}:∀ K,((List.range K).map fun k => if s = k then c else 0).sum = if s < K then c else 0
  | 0 => by simp
  | K + 1 => by
    rw [List.range_succ,List.map_append,List.sum_append,sum_hit K]
    simp only [List.map_cons,List.map_nil,List.sum_cons,List.sum_nil,Int.add_zero]
    by_cases h1:s < K
    · rw [if_pos h1,if_neg (by omega),if_pos (by omega),Int.add_zero]
    · rw [if_neg h1]
      by_cases h2:s = K
      · rw [if_pos h2,if_pos (by omega),Int.zero_add]
      · rw [if_neg h2,if_neg (by omega)];rfl
/-! ### components -/
theorem lkAt_lt {a:List Nat} (h:isP a) {s:Nat} (hs:s < a.length):lkAt a s < (prtL a).length:=by
  unfold lkAt
  refine List.findIdx_lt_length_of_exists ?_
  obtain ⟨h1,h2,h3⟩:=repS_spec h hs
  refine ⟨(List.range a.length).filter fun j => decide (j ∈ cyc a (repS a s)),?_,?_⟩
  · unfold prtL
    exact List.mem_map.2 ⟨repS a s,List.mem_filter.2 ⟨List.mem_range.2 h1,h3⟩,rfl⟩
  · rw [decide_eq_true_iff,List.mem_filter,List.mem_range,decide_eq_true_iff]
    exact ⟨hs,cyc_symm h hs h2⟩
/-! ### crossings of two components -/
theorem idxOf_map {f:Nat → Nat} (hf:∀ s,f (f s) = s) (p:Nat):∀ l:List Nat,(l.map f).idxOf p = l.idxOf (f p)
  | [] => rfl
  | a :: l => by
    rw [List.map_cons,List.idxOf_cons,List.idxOf_cons,idxOf_map hf p l]
    have e:(f a == p) = (a == f p):=by
      rw [Bool.eq_iff_iff,beq_iff_eq,beq_iff_eq]
      exact ⟨fun e => by rw [← e,hf],fun e => by rw [e,hf]⟩
    rw [e]
theorem lkS_snoc {n:Nat} {u:List Int} {x:Int} (hx:x ≠ 0) (p:Nat):lkS n (u ++ [x]) p = lkS n u (stepE p x):=by
  unfold lkS
  rw [← idxOf_map (f:=fun s => stepE s x) (fun s => stepE_twice hx s)]
  congr 1
  unfold endsL
  rw [List.map_map]
  exact List.map_congr_left fun s _ => endE_snoc u x s
theorem lkS_lt {n:Nat} {u:List Int} (hu:okB n u) {p:Nat} (hp:p < n):lkS n u p < n:=by
  unfold lkS
  have h:=ends_isP hu
  obtain ⟨j,hj,e⟩:=h.surj (i:=p) (by rw [endsL_length];exact hp)
  have:=List.idxOf_lt_length_of_mem (a:=p) (l:=endsL n u) (by
    rw [← e]
    exact getD_mem hj)
  rwa [endsL_length] at this
def pairs (i k:Nat):List Nat → Nat
  | [] => 0
  | c :: l => (if c = i then l.count k else 0) + pairs i k l
theorem sign_odd {x:Int} (h:x ≠ 0):x.sign = 1 ∨ x.sign = -1:=by
  rcases Int.lt_trichotomy x 0 with h1 | h1 | h1
  · exact .inr (Int.sign_eq_neg_one_of_neg h1)
  · exact absurd h1 h
  · exact .inl (Int.sign_eq_one_of_pos h1)
def lkE (n:Nat) (w:List Int) (i k:Nat):Int:=(lkSum n (endsL n w) i k [] w).tdiv 2
theorem lkM_eq {n:Nat} {w:List Int} (h:bfault (n:Int) w = 0):lkM (n:Int) w = (List.range (prtL (endsL n w)).length).map fun i => (List.range (prtL (endsL n w)).length).map fun k => lkE n w i k:=by
  unfold lkM lkE
  rw [if_pos h,Int.toNat_natCast]
end Go.Proofs.YtndgffiihbdppaaGreatDoor
namespace Go.Proofs.YtndgffiihbdppaaGreatDoor
set_option linter.unusedVariables false
set_option linter.unusedSimpArgs false
open Go.RowKit

theorem grownBy_setS {a w:World} {g:Nat} (h:a.grownBy w (some g)) (i:Nat) (u:Value):a.grownBy (w.setCell ⟨g,i,none⟩ u) (some g):=
  ⟨h.os,h.tape,h.output,by simpa [World.setCell] using h.size,fun k hk hne => (Below.heap_setCell w ⟨g,i,none⟩ u k (fun e => hne (by rw [e]))).trans (h.block k hk hne)⟩

structure SoSt (w wr:World) (base g n c:Nat) (xs ys:List Int) (i:Nat):Prop where
  own:OwnI wr base (some ⟨g,0,none⟩) n c ys
  grown:w.grownBy wr (some g)
  perm:ys.Perm xs
  sort:SortTo ys i
structure SiSt (w wr:World) (base g n c:Nat) (xs ys:List Int) (i j:Nat):Prop where
  own:OwnI wr base (some ⟨g,0,none⟩) n c ys
  grown:w.grownBy wr (some g)
  ins:InsSt xs ys i j
theorem SiSt.swap {w wr:World} {base g n c i j:Nat} {xs ys:List Int} {x y:Int} (h:SiSt w wr base g n c xs ys i (j + 1)) (hi:i < n) (hj:j + 1 ≤ i) (hx:ys.getD (j + 1) 0 = x) (hy:ys.getD j 0 = y) (hlt:x < y) :
    SiSt w ((wr.setCell ⟨g,j + 1,none⟩ (.int .i64 y)).setCell ⟨g,j,none⟩ (.int .i64 x)).drew base g n c xs (swp ys j) i j:=by
  have hl:=h.own.len
  have h1:=(h.own.set_ (j + 1) y).set_ j x
  have e:(ys.set (j + 1) y).set j x = swp ys j:=by unfold swp;rw [hx,hy]
  rw [e] at h1
  have hg:=grownBy_setS (grownBy_setS h.grown (j + 1) (.int .i64 y)) j (.int .i64 x)
  exact ⟨h1.drew,⟨hg.os,hg.tape,hg.output,hg.size,hg.block⟩,h.ins.swap (by omega) hj (by rw [hx,hy];exact hlt)⟩
theorem SiSt.stop {w wr:World} {base g n c i j:Nat} {xs ys:List Int} (h:SiSt w wr base g n c xs ys i j) (hj:j ≤ i) (hs:j = 0 ∨ ys.getD (j - 1) 0 ≤ ys.getD j 0):SoSt w wr base g n c xs ys (i + 1):=
  ⟨h.own,h.grown,h.ins.perm,h.ins.stop hj hs⟩

end Go.Proofs.YtndgffiihbdppaaGreatDoor
namespace Go.Proofs.YtndgffiihbdppaaGreatDoor
set_option linter.unusedVariables false
set_option linter.unusedSimpArgs false
open Go.RowKit

theorem lkSum_bd {n:Nat} {a:List Nat} (i k:Nat):∀ (w u:List Int),(lkSum n a i k u w).natAbs ≤ 2 * w.length
  | [],u => by simp [lkSum]
  | x :: w,u => by
    have ih:=lkSum_bd (n:=n) (a:=a) i k w (u ++ [x])
    have hs:=LP.sign_le x
    show (((if lkAt a (lkS n u (x.natAbs - 1)) = i ∧ lkAt a (lkS n u x.natAbs) = k then x.sign else 0) + (if lkAt a (lkS n u x.natAbs) = i ∧ lkAt a (lkS n u (x.natAbs - 1)) = k then x.sign else 0)) + lkSum n a i k (u ++ [x]) w).natAbs ≤ _
    rw [List.length_cons]
    split <;> split <;> omega
end Go.Proofs.YtndgffiihbdppaaGreatDoor
namespace Go.Proofs.YtndgffiihbdppaaGreatDoor
set_option linter.unusedVariables false
set_option linter.unusedSimpArgs false

/-! ### the list of components, strand by strand -/
def rowP (a:List Nat) (i m:Nat):List Nat:=(List.range i).filter fun j => decide (j ∈ cyc a m)
def minK (a:List Nat) (i:Nat):List Nat:=(List.range i).filter fun m => isMin a m
def prtK (a:List Nat) (i:Nat):List (List Nat):=(minK a i).map (rowP a i)
theorem prtK_all (a:List Nat):prtK a a.length = prtL a:=rfl
theorem minK_mem {a:List Nat} {i m:Nat}:m ∈ minK a i ↔ m < i ∧ isMin a m = true:=by unfold minK;rw [List.mem_filter,List.mem_range]
theorem prtK_length (a:List Nat) (i:Nat):(prtK a i).length = (minK a i).length:=by simp [prtK]
end Go.Proofs.YtndgffiihbdppaaGreatDoor
namespace Go.Proofs.YtndgffiihbdppaaGreatDoor
set_option linter.unusedVariables false
set_option linter.unusedSimpArgs false

theorem minK_yes {a:List Nat} {i:Nat} (h:isMin a i = true):minK a (i + 1) = minK a i ++ [i]:=by
  unfold minK
  rw [List.range_succ,List.filter_append,List.filter_cons_of_pos h]
  rfl
theorem minK_no {a:List Nat} {i:Nat} (h:isMin a i = false):minK a (i + 1) = minK a i:=by
  unfold minK
  rw [List.range_succ,List.filter_append,List.filter_cons_of_neg (by simp [h])]
  simp
theorem minK_pre {a:List Nat} {m:Nat}:∀ n,m ≤ n → ∃ r,minK a n = minK a m ++ r
  | 0,h => by
    have e:m = 0:=by omega
    subst e
    exact ⟨[],by simp⟩
  | n + 1,h => by
    by_cases e:m = n + 1
    · subst e
      exact ⟨[],by simp⟩
    · obtain ⟨r,hr⟩:=minK_pre (a:=a) (m:=m) n (by omega)
      cases hm:isMin a n with
      | true => exact ⟨r ++ [n],by rw [minK_yes hm,hr,List.append_assoc]⟩
      | false => exact ⟨r,by rw [minK_no hm,hr]⟩
theorem minK_le (a:List Nat) (i:Nat):(minK a i).length ≤ i:=by
  unfold minK
  refine Nat.le_trans (List.length_filter_le _ _) ?_
  rw [List.length_range]
  exact Nat.le_refl _
theorem repS_iff {a:List Nat} (h:isP a) {j s:Nat} (hj:j < a.length) (hs:s < a.length) (hm:isMin a j = true):repS a s = j ↔ s ∈ cyc a j:=by
  obtain ⟨r1,r2,r3⟩:=repS_spec h hs
  constructor
  · intro e
    rw [e] at r2
    exact cyc_symm h hs r2
  · intro e
    exact min_unique h r1 hj r3 hm (cyc_symm h hs r2) e
theorem lkAt_num {a:List Nat} (h:isP a) {s:Nat} (hs:s < a.length):lkAt a s = (minK a (repS a s)).length:=by
  obtain ⟨r1,r2,r3⟩:=repS_spec h hs
  obtain ⟨t,ht⟩:=minK_pre (a:=a) (m:=repS a s + 1) a.length (by omega)
  rw [minK_yes r3] at ht
  unfold lkAt
  rw [← prtK_all]
  unfold prtK
  rw [ht,List.append_assoc,List.map_append,List.findIdx_append]
  have h1:List.findIdx (fun c => decide (s ∈ c)) ((minK a (repS a s)).map (rowP a a.length)) = (minK a (repS a s)).length:=by
    rw [List.findIdx_eq_length_of_false,List.length_map]
    intro c hc
    obtain ⟨m,hm,rfl⟩:=List.mem_map.1 hc
    obtain ⟨m1,m2⟩:=minK_mem.1 hm
    rw [decide_eq_false_iff_not]
    intro hin
    unfold rowP at hin
    have hin2:=(List.mem_filter.1 hin).2
    rw [decide_eq_true_iff] at hin2
    have:=(repS_iff h (by omega) hs m2).2 hin2
    omega
  rw [h1,List.length_map,if_neg (by omega)]
  have h2:decide (s ∈ rowP a a.length (repS a s)) = true:=by
    rw [decide_eq_true_iff]
    unfold rowP
    rw [List.mem_filter,List.mem_range,decide_eq_true_iff]
    exact ⟨hs,cyc_symm h hs r2⟩
  simp only [List.map_append,List.map_cons,List.map_nil,List.cons_append,List.nil_append,List.findIdx_cons,h2,cond_true,Nat.zero_add]

/-! ### the numbers that the program writes -/
def cK (a:List Nat) (j t:Nat):List Int:=(List.range a.length).map fun s => if repS a s < j ∨ s ∈ (cyc a j).take t then ((lkAt a s:Nat):Int) else -1
theorem cK_length (a:List Nat) (j t:Nat):(cK a j t).length = a.length:=by simp [cK]
theorem cK_getD {a:List Nat} {j t s:Nat} (hs:s < a.length):(cK a j t).getD s 0 = if repS a s < j ∨ s ∈ (cyc a j).take t then ((lkAt a s:Nat):Int) else -1:=by
  simp [cK,List.getD,hs]
theorem cK_start (a:List Nat):cK a 0 0 = List.replicate a.length (-1):=by
  unfold cK
  rw [show (fun s => if repS a s < 0 ∨ s ∈ (cyc a 0).take 0 then ((lkAt a s:Nat):Int) else -1) = fun _ => (-1:Int) by
    funext s
    rw [if_neg]
    simp]
  rw [List.map_const',List.length_range]
theorem cK_congr {a:List Nat} {j t j' t':Nat} (h:∀ s,s < a.length → ((repS a s < j ∨ s ∈ (cyc a j).take t) ↔ (repS a s < j' ∨ s ∈ (cyc a j').take t'))):cK a j t = cK a j' t':=by
  unfold cK
  refine List.map_congr_left fun s hs => ?_
  have:=h s (List.mem_range.1 hs)
  by_cases e:repS a s < j ∨ s ∈ (cyc a j).take t
  · rw [if_pos e,if_pos (this.1 e)]
  · rw [if_neg e,if_neg fun e2 => e (this.2 e2)]
theorem cK_skip {a:List Nat} (h:isP a) {j:Nat} (hj:j < a.length) (hr:repS a j < j):cK a (j + 1) 0 = cK a j 0:=by
  refine cK_congr fun s hs => ?_
  simp only [List.take_zero,List.not_mem_nil,or_false]
  obtain ⟨_,_,r3⟩:=repS_spec h hs
  constructor
  · intro e
    by_cases e2:repS a s = j
    · rw [e2] at r3
      have:=(repS_min h hj).2 r3
      omega
    · omega
  · omega
theorem min_of_rep {a:List Nat} (h:isP a) {j:Nat} (hj:j < a.length) (hr:¬ repS a j < j):isMin a j = true:=by
  have:=repS_le h hj
  exact (repS_min h hj).1 (by omega)
theorem cK_next {a:List Nat} (h:isP a) {j:Nat} (hj:j < a.length) (hm:isMin a j = true):cK a j (perOf a j) = cK a (j + 1) 0:=by
  refine cK_congr fun s hs => ?_
  rw [List.take_of_length_le (by rw [cyc_length];exact Nat.le_refl _)]
  simp only [List.take_zero,List.not_mem_nil,or_false]
  rw [← repS_iff h hj hs hm]
  omega
theorem cK_set {a:List Nat} (h:isP a) {j t:Nat} (hj:j < a.length) (hm:isMin a j = true) (ht:t < perOf a j):(cK a j t).set (it a t j) (((minK a j).length:Nat):Int) = cK a j (t + 1):=by
  have hx:=it_lt h hj t
  have hc:(cyc a j).take (t + 1) = (cyc a j).take t ++ [it a t j]:=by
    rw [List.take_succ_eq_append_getElem (by rw [cyc_length];exact ht)]
    simp [cyc]
  refine list_extI (by rw [List.length_set,cK_length,cK_length]) fun s hs => ?_
  rw [List.length_set,cK_length] at hs
  have hv:lkAt a (it a t j) = (minK a j).length:=by
    rw [lkAt_num h hx,(repS_iff h hj hx hm).2 ((mem_cyc h hj).2 ⟨t,rfl⟩)]
  rw [cK_getD hs,hc]
  by_cases e:s = it a t j
  · subst e
    rw [if_pos (Or.inr (by simp)),hv]
    simp [List.getD,cK_length,hx]
  · have e2:((cK a j t).set (it a t j) (((minK a j).length:Nat):Int)).getD s 0 = (cK a j t).getD s 0:=by
      simp only [List.getD,List.getElem?_set]
      rw [if_neg (fun e3 => e e3.symm)]
    rw [e2,cK_getD hs]
    have e3:(s ∈ (cyc a j).take t ++ [it a t j]) ↔ s ∈ (cyc a j).take t:=by simp [e]
    simp only [e3]
theorem cK_none {a:List Nat} (h:isP a) {j t:Nat} (hj:j < a.length) (hm:isMin a j = true) (ht:t < perOf a j):(cK a j t).getD (it a t j) 0 = -1:=by
  have hx:=it_lt h hj t
  rw [cK_getD hx,if_neg]
  rintro (e | e)
  · rw [(repS_iff h hj hx hm).2 ((mem_cyc h hj).2 ⟨t,rfl⟩)] at e
    omega
  · obtain ⟨u,hu,e⟩:=List.mem_iff_getElem.1 e
    rw [List.length_take,cyc_length] at hu
    simp only [List.getElem_take,cyc,List.getElem_map,List.getElem_range] at e
    obtain ⟨d,hd⟩:∃ d,t = u + d:=⟨t - u,by omega⟩
    rw [hd] at e
    have e2:=it_back h hj e.symm
    exact (per_spec h hj).2.2.2 d (by omega) (by omega) e2
theorem cK_back {a:List Nat} (h:isP a) {j:Nat} (hj:j < a.length) (hm:isMin a j = true):it a (perOf a j) j = j ∧ (cK a j (perOf a j)).getD j 0 = ((lkAt a j:Nat):Int):=by
  refine ⟨(per_spec h hj).2.2.1,?_⟩
  rw [cK_next h hj hm,cK_getD hj,if_pos]
  left
  have:=repS_le h hj
  omega
theorem cK_end {a:List Nat} (h:isP a):cK a a.length 0 = zs ((List.range a.length).map (lkAt a)):=by
  unfold cK zs
  rw [List.map_map]
  refine List.map_congr_left fun s hs => ?_
  rw [if_pos (Or.inl (repS_spec h (List.mem_range.1 hs)).1)]
  rfl
theorem prt_minK (a:List Nat):(prtL a).length = (minK a a.length).length:=by rw [← prtK_all,prtK_length]

/-! ### the rows of strands -/
/-! ### components by position -/
def atK (n:Nat) (a:List Nat) (u:List Int):List Nat:=(List.range n).map fun p => lkAt a (lkS n u p)
theorem atK_length (n:Nat) (a:List Nat) (u:List Int):(atK n a u).length = n:=by simp [atK]
theorem atK_getD {n p:Nat} {a:List Nat} {u:List Int} (hp:p < n):(atK n a u).getD p 0 = lkAt a (lkS n u p):=by
  simp [atK,List.getD,hp]
theorem lkS_nil {n p:Nat} (hp:p < n):lkS n [] p = p:=by
  unfold lkS
  have e:endsL n [] = List.range n:=by
    unfold endsL
    conv => rhs;rw [← List.map_id (List.range n)]
    exact List.map_congr_left fun s _ => rfl
  rw [e]
  have hm:p ∈ List.range n:=List.mem_range.2 hp
  have h2:(List.range n).idxOf p < (List.range n).length:=List.idxOf_lt_length_of_mem hm
  have h3:=List.getElem_idxOf h2
  rwa [List.getElem_range] at h3
theorem atK_start {n:Nat} {a:List Nat} (h:a.length = n):(List.range a.length).map (lkAt a) = atK n a []:=by
  rw [h]
  unfold atK
  refine List.map_congr_left fun p hp => ?_
  rw [lkS_nil (List.mem_range.1 hp)]
theorem atK_step {n i:Nat} {a:List Nat} {u:List Int} {x:Int} (h0:x ≠ 0) (hi:x.natAbs = i + 1) (hn:i + 1 < n):((atK n a u).set i ((atK n a u).getD (i + 1) 0)).set (i + 1) ((atK n a u).getD i 0) = atK n a (u ++ [x]):=by
  rw [atK_getD hn,atK_getD (show i < n by omega)]
  refine List.ext_getElem (by simp [atK]) fun p h1 h2 => ?_
  have hp:p < n:=by rw [atK_length] at h2;exact h2
  have e1:(atK n a (u ++ [x]))[p] = lkAt a (lkS n u (stepE p x)):=by
    simp only [atK,List.getElem_map,List.getElem_range]
    rw [lkS_snoc h0]
  rw [e1,List.getElem_set,List.getElem_set]
  unfold stepE
  by_cases e2:i + 1 = p
  · subst e2
    rw [if_pos rfl,if_neg (by omega),if_pos (by omega)]
    rfl
  · rw [if_neg e2]
    by_cases e3:i = p
    · subst e3
      rw [if_pos rfl,if_pos (by omega)]
    · rw [if_neg e3,if_neg (by omega),if_neg (by omega)]
      simp [atK]
end Go.Proofs.YtndgffiihbdppaaGreatDoor
namespace Go.Proofs.YtndgffiihbdppaaGreatDoor
set_option linter.unusedVariables false
set_option linter.unusedSimpArgs false
open Go.RowKit

def cmp1 (x y:Int):Int:=if x < y then -1 else if y < x then 1 else 0

set_option maxHeartbeats 1000000 in
theorem cmp_any (x y:Int) (w:World):Calls Tryz.prog 23 #[.int .i64 x,.int .i64 y] w fun e w' => e = .returned (.int .i64 (cmp1 x y)) ∧ w = w':=by
  rcases Int.lt_trichotomy x y with h | h | h
  · have HE:Hid (cmp1 x y = -1):=if_pos h
    have hx:(x != x) = false:=by simp
    have hy:(y != y) = false:=by simp
    go_enter Tryz.func23,Tryz.ntmps23
    go_wp2
    go_ret
    rw [HE.out]
    exact ⟨rfl,rfl⟩
  · subst h
    have HE:Hid (cmp1 x x = 0):=by unfold cmp1;rw [if_neg (by omega),if_neg (by omega)];exact rfl
    have hx:(x != x) = false:=by simp
    go_enter Tryz.func23,Tryz.ntmps23
    go_wp2
    go_ret
    rw [HE.out]
    exact ⟨rfl,rfl⟩
  · have HE:Hid (cmp1 x y = 1):=by unfold cmp1;rw [if_neg (by omega),if_pos h];exact rfl
    have hx:(x != x) = false:=by simp
    have hy:(y != y) = false:=by simp
    go_enter Tryz.func23,Tryz.ntmps23
    go_wp2
    go_ret
    rw [HE.out]
    exact ⟨rfl,rfl⟩

end Go.Proofs.YtndgffiihbdppaaGreatDoor
namespace Go.Proofs.YtndgffiihbdppaaGreatDoor
set_option linter.unusedVariables false
set_option linter.unusedSimpArgs false
open Go.RowKit

theorem bfault_bad {m:Int} {xs:List Int} (h1:1 ≤ m) (h6:m ≤ 6) (h:xs.length ≤ 30) {k:Nat} (hk:k < xs.length) (hb:okX m (xs.getD k 0) = false):bfault m xs = 3:=by
  unfold bfault
  rw [if_neg (by omega),if_neg (by omega),if_neg]
  intro h2
  have h3:=List.all_eq_true.1 h2 _ (List.getElem_mem hk)
  rw [show xs.getD k 0 = xs[k] by simp [List.getD,hk]] at hb
  rw [hb] at h3
  cases h3
theorem bfault_all {m:Int} {xs:List Int} (h1:1 ≤ m) (h6:m ≤ 6) (h:xs.length ≤ 30) (hb:∀ k,k < xs.length → okX m (xs.getD k 0) = true):bfault m xs = 0:=by
  unfold bfault
  rw [if_neg (by omega),if_neg (by omega),if_pos]
  rw [List.all_eq_true]
  intro x hx
  obtain ⟨k,hk,rfl⟩:=List.getElem_of_mem hx
  have:=hb k hk
  rwa [show xs.getD k 0 = xs[k] by simp [List.getD,hk]] at this

set_option maxRecDepth 100000 in
set_option maxHeartbeats 4000000 in
theorem bcheck_any (m:Int) (A:Option Addr) (n c:Nat) (xs:List Int) (w:World) (ha:SL w A n c xs) (hm:(Lit.int .i64 m).wf = true) :
    Calls Tryz.prog 13 #[.int .i64 m,.slice A n c] w fun e w' => e = .returned (.int .i64 (bfault m xs)) ∧ w = w':=by
  have HL:=hide ha.il.len
  have HA:=hide ha.il
  have hns:=ha.il.small
  clear ha
  by_cases h1:m < 1
  · have HE:Hid (bfault m xs = 1):=hide (by unfold bfault;rw [if_pos (by omega)])
    go_enter Tryz.func13,Tryz.ntmps13
    go_wp2_with fail
    go_ret
    exact ⟨by rw [HE.out];rfl,rfl⟩
  by_cases h6:6 < m
  · have HE:Hid (bfault m xs = 1):=hide (by unfold bfault;rw [if_pos (by omega)])
    go_enter Tryz.func13,Tryz.ntmps13
    go_wp2_with fail
    go_ret
    exact ⟨by rw [HE.out];rfl,rfl⟩
  by_cases h30:30 < n
  · have HE:Hid (bfault m xs = 2):=hide (by unfold bfault;rw [if_neg (by omega),if_pos (by rw [HL.out];exact h30)])
    go_enter Tryz.func13,Tryz.ntmps13
    go_wp2_with fail
    go_ret
    exact ⟨by rw [HE.out];rfl,rfl⟩
  have HB:Hid (∀ k,k < n → okX m (xs.getD k 0) = false → bfault m xs = 3):=hide (fun k hk hb => bfault_bad (by omega) (by omega) (by rw [HL.out];omega) (by rw [HL.out];exact hk) hb)
  have HG:Hid ((∀ k,k < n → okX m (xs.getD k 0) = true) → bfault m xs = 0):=hide (fun hb => bfault_all (by omega) (by omega) (by rw [HL.out];omega) (fun k hk => hb k (by rw [← HL.out];exact hk)))
  have hwm:IntKind.i64.wrap (-m) = -m:=by rw [IntKind.wrap_i64];omega
  go_enter Tryz.func13,Tryz.ntmps13
  go_wp2_with fail
  go_loop [18] (fun iv => ∃ k:Nat,k ≤ n ∧ iv = .int .i64 k ∧ Hid (∀ j,j < k → okX m (xs.getD j 0) = true)) (fun iv => n - (intOf iv).toNat)
  case atStart => exact ⟨0,Nat.zero_le _,rfl,hide (fun j hj => absurd hj (by omega))⟩
  case round =>
    obtain ⟨k,hk,rfl,HP⟩:=hrel
    by_cases hlt:k < n
    · obtain ⟨ad,rfl,hx⟩:=HA.out.at_ hlt
      have HBK:=hide (HB.out k hlt)
      have HN:Hid (okX m (xs.getD k 0) = true → ∀ j,j < k + 1 → okX m (xs.getD j 0) = true):=hide (fun h j hj => by
        rcases Nat.lt_or_ge j k with h2 | h2
        · exact HP.out j h2
        · rw [show j = k by omega];exact h)
      clear HB HP
      generalize xs.getD k 0 = x at *
      by_cases hx0:x = 0
      · have HV:=hide (HBK.out (by subst hx0;unfold okX;simp))
        clear HN HBK
        subst hx0
        go_wp2_with fail
        go_ret
        exact ⟨by rw [HV.out];rfl,rfl⟩
      by_cases hx1:x ≤ -m
      · have HV:=hide (HBK.out (by unfold okX;rw [decide_eq_false];omega))
        have e0:(x == 0) = false:=by simpa using hx0
        clear HN HBK
        go_wp2_with fail
        go_ret
        exact ⟨by rw [HV.out];rfl,rfl⟩
      by_cases hx2:m ≤ x
      · have HV:=hide (HBK.out (by unfold okX;rw [decide_eq_false];omega))
        have e0:(x == 0) = false:=by simpa using hx0
        clear HN HBK
        go_wp2_with fail
        go_ret
        exact ⟨by rw [HV.out];rfl,rfl⟩
      have HV:=hide (HN.out (by unfold okX;rw [decide_eq_true];omega))
      have e0:(x == 0) = false:=by simpa using hx0
      clear HN HBK
      go_wp2_with fail
      go_round
      case rel => exact ⟨k + 1,by omega,by go_num,HV⟩
      case measure => simp [intOf];omega
    · have hkn:k = n:=by omega
      subst hkn
      have HV:=hide (HG.out HP.out)
      clear HP HG HB
      go_wp2_with fail
      go_ret
      exact ⟨by rw [HV.out];rfl,rfl⟩

set_option maxRecDepth 100000 in
set_option maxHeartbeats 1000000 in
theorem gen_any (x:Int) (w:World) (h1:-10 < x) (h2:x < 10):Calls Tryz.prog 66 #[.int .i64 x] w fun e w' => e = .returned (.int .i64 (x.natAbs:Int)) ∧ w = w':=by
  have hw:IntKind.i64.wrap (-x) = -x:=by rw [IntKind.wrap_i64];omega
  have HM:Hid (max x (-x) = (x.natAbs:Int)):=hide (by omega)
  go_enter Tryz.func66,Tryz.ntmps66
  go_wp2_with ((with_reducible show wpList _ _ _ (Oper.mk _ (.call { callee:=.builtin .max,args:=_,argTypes:=_ }) _ _ _ _ :: _) _ _);refine wpList_gives rfl (gives_maxI rfl rfl rfl HM.out) ?_)
  go_ret
  exact ⟨rfl,rfl⟩

theorem expo_snoc (w:List Int) (x:Int):LP.expo (w ++ [x]) = LP.expo w + Int.sign x:=by
  rw [LP.expo_append,LP.expo_cons,LP.expo_nil,Int.add_zero]

set_option maxRecDepth 100000 in
set_option maxHeartbeats 2000000 in
theorem bexpo_any (m:Int) (A:Option Addr) (n c:Nat) (xs:List Int) (w:World) (ha:SL w A n c xs) (hm:(Lit.int .i64 m).wf = true) :
    Calls Tryz.prog 46 #[.int .i64 m,.slice A n c] w fun e w' => e = .returned (.tuple #[.int .i64 (expoB m xs),.int .i64 (bfault m xs)]) ∧ Below w.heap.size w w':=by
  have HC:=hide (bcheck_any m A n c xs w ha hm)
  have HL:=hide ha.il.len
  have HA:=hide ha.il
  have hns:=ha.il.small
  clear ha
  obtain ⟨f,hf⟩:∃ f,bfault m xs = f:=⟨_,rfl⟩
  have HF:=hide hf
  rw [hf] at HC ⊢
  clear hf
  by_cases h0:f = 0
  case neg =>
    have HV:Hid (expoB m xs = 0):=hide (by unfold expoB;rw [HF.out,if_neg h0])
    have hne:(f != 0) = true:=by simpa using h0
    clear h0
    go_enter Tryz.func46,Tryz.ntmps46
    go_wp2_with fail
    refine HC.out.mono ?_
    rintro e w1 ⟨rfl,hww⟩
    subst hww
    go_wp2_with fail
    go_ret2
    exact ⟨by rw [HV.out];rfl,Below.refl _ _⟩
  subst h0
  have HV:Hid (expoB m xs = LP.expo xs):=hide (by unfold expoB;rw [HF.out,if_pos rfl])
  have hn30:n ≤ 30:=by have:=(bfault_zero HF.out).2.2.1;rw [HL.out] at this;exact this
  go_enter Tryz.func46,Tryz.ntmps46
  go_wp2_with fail
  refine HC.out.mono ?_
  rintro e w1 ⟨rfl,hww⟩
  subst hww
  go_wp2_with fail
  go_loop [7,18] (fun sv iv => ∃ k:Nat,k ≤ n ∧ iv = .int .i64 k ∧ sv = .int .i64 (LP.expo (xs.take k))) (fun _ iv => n - (intOf iv).toNat)
  case atStart => exact ⟨0,Nat.zero_le _,rfl,by rw [List.take_zero];rfl⟩
  case round =>
    obtain ⟨k,hk,rfl,rfl⟩:=hrel
    by_cases hlt:k < n
    · obtain ⟨ad,rfl,hx⟩:=HA.out.at_ hlt
      have hlx:k < xs.length:=by rw [HL.out];exact hlt
      have hget:xs.getD k 0 = xs[k]:=by simp [List.getD,List.getElem?_eq_getElem hlx]
      have HT:Hid (LP.expo (xs.take (k + 1)) = LP.expo (xs.take k) + cmp1 (xs.getD k 0) 0):=hide (by
        rw [List.take_succ_eq_append_getElem hlx,expo_snoc,hget]
        congr 1
        unfold cmp1
        rcases Int.lt_trichotomy xs[k] 0 with h | h | h
        · rw [Int.sign_eq_neg_one_of_neg h,if_pos h]
        · rw [h];rfl
        · rw [Int.sign_eq_one_of_pos h,if_neg (by omega),if_pos h])
      have hE:(LP.expo (xs.take k)).natAbs ≤ 30:=by have:=LP.expo_le (xs.take k);have:=List.length_take_le k xs;omega
      have hC1:(cmp1 (xs.getD k 0) 0).natAbs ≤ 1:=by unfold cmp1;split <;> (try split) <;> decide
      clear hlx hget
      generalize xs.getD k 0 = x at *
      generalize LP.expo (xs.take k) = s at *
      have HCM:=hide (cmp_any x 0 w)
      generalize cmp1 x 0 = cx at *
      have hw:IntKind.i64.wrap (s + cx) = s + cx:=by rw [IntKind.wrap_i64];omega
      go_wp2_with fail
      refine HCM.out.mono ?_
      rintro e w1 ⟨rfl,hww⟩
      subst hww
      go_wp2_with fail
      go_round
      case rel => exact ⟨k + 1,by omega,by go_num,by rw [HT.out]⟩
      case measure => simp [intOf];omega
    · have hkn:k = n:=by omega
      have HE:Hid (LP.expo (xs.take k) = expoB m xs):=hide (by rw [HV.out,List.take_of_length_le (by rw [HL.out];omega)])
      rw [HE.out]
      clear hkn
      go_wp2_with fail
      go_ret2
      exact ⟨rfl,Below.refl _ _⟩

end Go.Proofs.YtndgffiihbdppaaGreatDoor
