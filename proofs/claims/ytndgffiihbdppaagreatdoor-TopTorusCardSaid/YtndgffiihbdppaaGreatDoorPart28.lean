/- Several texts in one. -/
import Derived.Test.YtndgffiihbdppaaGreatDoorPart27
import Derived.Test.YtndgffiihbdppaaGreatDoorPart25
import Derived.Test.YtndgffiihbdppaaGreatDoorPart1
import Derived.Test.YtndgffiihbdppaaGreatDoorBase1
namespace Go.Proofs.YtndgffiihbdppaaGreatDoor
set_option linter.unusedVariables false
set_option linter.unusedSimpArgs false
open Go.RowKit Go.Maps

theorem eLMul:∀ args w,(callFunc 47 args).run Tryz.prog w = .ok (.enter 47 args) w:=enters (fn:=Tryz.f47) (by kernel_rfl) (by kernel_rfl) (by kernel_rfl)
set_option maxRecDepth 100000 in
set_option maxHeartbeats 4000000 in
theorem jpoly_any (F:PolyC) (G:TlC) (B:BraidC) (m:Int) (A:Option Addr) (n c:Nat) (xs:List Int) (w:World) (ha:SL w A n c xs) (hm:(Lit.int .i64 m).wf = true) :
    Calls Tryz.prog 24 #[.int .i64 m,.slice A n c] w (GivesPE w (joE m xs,(LP.canon (joP m xs)).1,(LP.canon (joP m xs)).2)):=by
  obtain ⟨z,hz⟩:∃ y,joE m xs = y:=⟨_,rfl⟩
  obtain ⟨q,hq⟩:∃ y,joP m xs = y:=⟨_,rfl⟩
  obtain ⟨p,hp⟩:∃ y,joB m xs = y:=⟨_,rfl⟩
  rw [hz,hq]
  have hk0:=Blk.new w 26 #[.int .i64 0,.slice none 0 0]
  have hb0:Below w.heap.size w (w.alloc (.cells #[.int .i64 0,.slice none 0 0] 26)):=(Below.refl _ _).alloc (Nat.le_refl _) _
  have hz0:(w.alloc (.cells #[.int .i64 0,.slice none 0 0] 26)).heap.size = w.heap.size + 1:=by simp
  have hbr:=jbracket_any F G B m A n c xs _ (ha.below hb0) hm
  rw [hz,hp] at hbr
  have HBR:=hide hbr
  have HJE:=hide hz
  have HJP:=hide hq
  have HJB:=hide hp
  have HA:=hide ha
  have HK0:=hide hk0
  have HB0:=hide hb0
  have HZ0:=hide hz0
  have HLN:=hide ha.il.len
  clear ha hk0 hb0 hz0 hbr hz hq hp
  go_enter Tryz.func24,Tryz.ntmps24
  go_wp2_with fail
  refine HBR.out.mono ?_
  rintro e w1 ⟨A1,n1,c1,rfl,hs1,hn1,hb1⟩
  generalize w.alloc (.cells #[.int .i64 0,.slice none 0 0] 26) = wa at *
  obtain ⟨l1,hl1⟩:∃ y,(LP.canon p).1 = y:=⟨_,rfl⟩
  have hzz:=HZ0.out
  have hb2:Below w1.heap.size w1 (w1.alloc (.cells #[.int .i64 l1,.slice A1 n1 c1] 26)):=(Below.refl _ _).alloc (Nat.le_refl _) _
  have hk1:=(HK0.out.below hb1 (by omega)).below hb2 (by have:=hb1.size;omega)
  have K1:=hide hk1
  have B1:=hide ((HB0.out.trans (hb1.mono (by omega))).trans (hb2.mono (by have:=hb1.size;omega)))
  have Z1:=hide (show w.heap.size + 1 ≤ w1.heap.size by have:=hb1.size;omega)
  have S1:=hide (show SL (w1.alloc (.cells #[.int .i64 l1,.slice A1 n1 c1] 26)) A1 n1 c1 (LP.canon p).2 from hs1.below hb2)
  have K6:=hide (Blk.new w1 26 #[.int .i64 l1,.slice A1 n1 c1])
  have ZW:=hide (show (w1.alloc (.cells #[.int .i64 l1,.slice A1 n1 c1] 26)).heap.size = w1.heap.size + 1 by simp)
  have q0:=hk1.cell 0
  have q1:=hk1.cell 1
  have q2:=hk1.frozen 0
  have q3:=hk1.frozen 1
  simp at q0 q1
  clear hb1 hzz HK0 HB0 HZ0 HBR hk1 hb2 hs1 hn1
  clear wa
  simp only [hl1]
  have HL1:=hide hl1
  clear hl1
  go_upto_region 2 with fail
  generalize w1.alloc (.cells #[.int .i64 l1,.slice A1 n1 c1] 26) = w2 at *
  generalize w1.heap.size = b6 at *
  by_cases hf:z = 0
  · subst hf
    have hj:=HJE.out
    have hbf:bfault m xs = 0 ∧ ¬ 12 < xs.length:=by
      unfold joE at hj
      by_cases h:bfault m xs = 0
      · rw [if_neg (by simp [h])] at hj
        by_cases h2:12 < xs.length
        · rw [if_pos h2] at hj;omega
        · exact ⟨h,h2⟩
      · rw [if_pos h] at hj;exact absurd hj h
    obtain ⟨h1,h6,h30,hlet⟩:=bfault_zero hbf.1
    obtain ⟨N,hN⟩:∃ N:Nat,m = (N:Int):=⟨m.toNat,by omega⟩
    subst hN
    have h1:1 ≤ N:=by omega
    have h6:N ≤ 6:=by omega
    have hlet':∀ y ∈ xs,y ≠ 0 ∧ y.natAbs < N:=fun y hy => by have:=hlet y hy;omega
    have hl12:xs.length ≤ 12:=by omega
    have hpe:p = brk N xs:=by rw [← HJB.out];unfold joB;rw [if_pos hj,Int.toNat_natCast]
    have hqe:q = jon N xs:=by rw [← HJP.out];unfold joP;rw [if_pos hj,Int.toNat_natCast]
    subst hpe;subst hqe
    have hrb:LP.Rt (brk N xs):=(brk_n1 h1 h6 hlet' hl12).rt (by omega) (by have:=Nat.pow_le_pow_right (show 0 < 3 by omega) hl12;have:3 ^ 12 = 531441:=(by decide);omega)
    have hrj:=jon_rt h1 h6 hlet' hl12
    have hex:=LP.expo_le xs
    obtain ⟨ex,hexe⟩:∃ y,LP.expo xs = y:=⟨_,rfl⟩
    have HEX:=hide (B.expo (N:Int) A n c xs w2 (HA.out.below B1.out) hm)
    have hev:expoB (N:Int) xs = ex:=by unfold expoB;rw [if_pos hbf.1,hexe]
    rw [hev,hbf.1] at HEX
    have hjd:jon N xs = brk N xs * LP.term (-3 * ex) (if ex % 2 = 0 then 1 else -1):=by unfold jon;rw [hexe]
    rw [hexe] at hex
    have HJD:=hide hjd
    have HRB:=hide hrb
    have HRJ:=hide hrj
    have HE12:=hide (show ex.natAbs ≤ 12 by omega)
    clear hjd hrb hrj hex hexe hev hlet hlet' h30 hbf hj HJE HJP HJB
    go_wp2_with fail
    refine HEX.out.mono ?_
    rintro e w3 ⟨rfl,hb3⟩
    -- BEGIN
    have hl1:=K6.out.lt
    have z1:=Z1.out
    have hw2:b6 + 1 ≤ w2.heap.size:=by omega
    have K13:=hide (K1.out.below hb3 (by omega))
    have K63:=hide (K6.out.below hb3 hl1)
    have S3:=hide (S1.out.below hb3)
    have B3:=hide (B1.out.trans (hb3.mono (by omega)))
    have Z3:=hide (show b6 + 1 ≤ w3.heap.size by have:=hb3.size;omega)
    clear hb3 K1 K6 S1 B1 HEX hw2 q0 q1 q2 q3 HA
    have hw:=HE12.out
    have hnm:(ex.tmod 2).natAbs = ex.natAbs % 2:=Int.natAbs_tmod ex 2
    have fm:IntKind.i64.wrap (ex.tmod 2) = ex.tmod 2:=by
      generalize ex.tmod 2 = t at hnm ⊢
      rw [IntKind.wrap_i64];omega
    have hmul:IntKind.i64.wrap (-3 * ex) = -3 * ex:=by rw [IntKind.wrap_i64];omega
    by_cases hpar:ex % 2 = 0
    · have f2:(ex.tmod 2 != 0) = false:=by
        have:ex.tmod 2 = 0:=by
          generalize ex.tmod 2 = t at hnm ⊢
          omega
        simpa using this
      have hjd:=HJD.out
      rw [if_pos hpar] at hjd
      have HJD2:=hide hjd
      clear hjd hpar
      go_upto_region 8 with fail
      clear f2 fm hnm
      have hl6:=K63.out.lt
      have HT:=hide (fun (w':World) => jterm_any 1 (-3 * ex) w' (.inl rfl))
      have hrt:LP.Rt (LP.term (-3 * ex) 1):=term_rt (by omega) (by decide)
      have HM:=hide (fun (w':World) (hb:Below w3.heap.size w3 w') (B2:Option Addr) (m2 d2:Nat) (hs:SL w' B2 m2 d2 (LP.canon (LP.term (-3 * ex) 1)).2) => by
        have h:=F.mul (LP.canon (brk N xs)).1 A1 n1 c1 (LP.canon (brk N xs)).2 (LP.canon (LP.term (-3 * ex) 1)).1 B2 m2 d2 (LP.canon (LP.term (-3 * ex) 1)).2 w' (S3.out.below hb) hs HRB.out.wf hrt.wf
        rw [LP.mulR_canon HRB.out hrt (by rw [← HJD2.out];exact HRJ.out),← HJD2.out,HL1.out] at h
        exact h)
      refine wp_region_noPanic ?_
      refine wp_region_held_drew (S:=fun z => Blk z b6 26 #[.int .i64 l1,.slice A1 n1 c1]) (by kernel_rfl) (K63.out.below (Below.refl _ _).drew hl6) (fun hS => ?_)
      have hD:Below w3.heap.size w3 w3.drew:=(Below.refl _ _).drew
      refine wpAnyH_tk 0 (v:=PV l1 A1 n1 c1) rfl (by kernel_rfl) (by kernel_rfl) (by kernel_rfl) (yi rfl fun w' hw' => gives_loadRow rfl rfl hw' Tryz.underlying26 (by kernel_rfl) (by kernel_rfl)) hS ?_
      go_frame
      refine wpAnyH_tk 1 (v:=.int .i64 1) rfl (by kernel_rfl) (by kernel_rfl) (by kernel_rfl) (yi rfl fun w' hw' => gives_move (.inl rfl) rfl) hS ?_
      go_frame
      refine wpAnyH_tk 2 (v:=.int .i64 ex) rfl (by kernel_rfl) (by kernel_rfl) (by kernel_rfl) (yi rfl fun w' hw' => gives_move (.inl rfl) rfl) hS ?_
      go_frame
      refine wpAnyH_tk 3 (v:=.int .i64 (-3 * ex)) rfl (by kernel_rfl) (by kernel_rfl) (by kernel_rfl) (yi rfl fun w' hw' => gives_mul rfl rfl rfl hmul) hS ?_
      go_frame
      refine wpAnyH_1 4 rfl (by kernel_rfl) ?_
      refine wp_call (l:=[.tmp 31,.tmp 33]) [.int .i64 1,.int .i64 (-3 * ex)] rfl rfl eJterm rfl ?_
      refine (HT.out _).mono ?_
      rintro e w4 ⟨v4,rfl,⟨B2,m2,d2,rfl,hs4,hn4⟩,hb4⟩
      have hD4:Below w3.heap.size w3 w4:=hD.trans hb4
      have hS4:=K63.out.below hD4 hl6
      obtain ⟨l2,hl2⟩:∃ y,(LP.canon (LP.term (-3 * ex) 1)).1 = y:=⟨_,rfl⟩
      have hm4:=HM.out _ hD4 B2 m2 d2 hs4
      rw [hl2] at hm4 ⊢
      refine ⟨_,rfl,hS4,?_⟩
      go_frame
      refine wpAnyH_1 5 rfl (by kernel_rfl) ?_
      refine wp_call (l:=[.tmp 30,.tmp 34]) [PV l1 A1 n1 c1,PV l2 B2 m2 d2] rfl rfl eLMul rfl ?_
      refine hm4.mono ?_
      rintro e w5 ⟨B3',m3,d3,rfl,hs5,hn5,hb5⟩
      obtain ⟨l3,hl3⟩:∃ y,(LP.canon (jon N xs)).1 = y:=⟨_,rfl⟩
      simp only [hl3]
      have hD5:Below w3.heap.size w3 w5:=hD4.trans (hb5.mono hD4.size)
      have hS5:=K63.out.below hD5 hl6
      refine ⟨_,rfl,hS5,?_⟩
      go_frame
      refine wpAnyH_tk 6 (v:=PV l3 B3' m3 d3) rfl (by kernel_rfl) (by kernel_rfl) (by kernel_rfl) (yi rfl fun w' hw' => gives_extract rfl rfl rfl) hS5 ?_
      go_frame
      refine wpAnyH_tk 7 (v:=.int .i64 0) rfl (by kernel_rfl) (by kernel_rfl) (by kernel_rfl) (yi rfl fun w' hw' => gives_extract rfl rfl rfl) hS5 ?_
      go_frame
      refine wpAnyH_1 8 rfl (by kernel_rfl) ?_
      have z3:=Z3.out
      have hk0:=K13.out.below hD5 (by omega)
      refine wp_storeRow rfl rfl rfl hk0 (by kernel_rfl) rfl (by simp [Value.oneCell']) ?_
      have hS6:Blk (w5.setRow w.heap.size #[.int .i64 l3,.slice B3' m3 d3]) b6 26 #[.int .i64 l1,.slice A1 n1 c1]:=(setRow_other _ _ _ _ (by omega)).trans hS5
      refine ⟨hS6,?_⟩
      go_frame
      refine wpAnyH_tk 9 (v:=.int .i64 0) rfl (by kernel_rfl) (by kernel_rfl) (by kernel_rfl) (yi rfl fun w' hw' => gives_move (.inr rfl) rfl) hS6 ?_
      go_frame
      refine wpAnyH_done (by kernel_rfl) (noPanic_mk ?_) _
      have s4:=hD4.size
      have KF:=hide (show Blk (w5.setRow w.heap.size #[.int .i64 l3,.slice B3' m3 d3]) w.heap.size 26 #[.int .i64 l3,.slice B3' m3 d3] from setRow_heap _ _ _ _ _ _ hk0)
      have hfar:0 < m3 → ∀ ad,B3' = some ad → w.heap.size + 1 ≤ ad.block:=fun hn ad e => by have:=hn5 hn ad e;omega
      have SF:=hide (SL.setRow_ hs5 (fun hn ad e => by have:=hfar hn ad e;omega) #[.int .i64 l3,.slice B3' m3 d3] (b:=w.heap.size))
      have NF:=hide hfar
      have BF:=hide (Below.setRow_ (B3.out.trans (hD5.mono (by omega))) (Nat.le_refl w.heap.size) #[.int .i64 l3,.slice B3' m3 d3])
      have HL3:=hide hl3
      clear hS hS4 hS5 hS6 hD hD4 hD5 hs4 hn4 hb4 hs5 hn5 hb5 hk0 hfar hm4 HM HT hrt hl2 hl3 hl6 s4
      go_wp2_with fail
      refine bodyPost_ret (results_pe rfl _ rfl rfl KF.out) rfl ?_
      exact ⟨B3',m3,d3,by rw [HL3.out];rfl,SF.out,fun hn ad e => by have:=NF.out hn ad e;omega,BF.out⟩
    · have f2:(ex.tmod 2 != 0) = true:=by
        have:ex.tmod 2 ≠ 0:=by
          generalize ex.tmod 2 = t at hnm ⊢
          omega
        simpa using this
      have hjd:=HJD.out
      rw [if_neg hpar] at hjd
      have HJD2:=hide hjd
      clear hjd hpar
      go_upto_region 8 with fail
      clear f2 fm hnm
      have hl6:=K63.out.lt
      have HT:=hide (fun (w':World) => jterm_any (-1) (-3 * ex) w' (.inr rfl))
      have hrt:LP.Rt (LP.term (-3 * ex) (-1)):=term_rt (by omega) (by decide)
      have HM:=hide (fun (w':World) (hb:Below w3.heap.size w3 w') (B2:Option Addr) (m2 d2:Nat) (hs:SL w' B2 m2 d2 (LP.canon (LP.term (-3 * ex) (-1))).2) => by
        have h:=F.mul (LP.canon (brk N xs)).1 A1 n1 c1 (LP.canon (brk N xs)).2 (LP.canon (LP.term (-3 * ex) (-1))).1 B2 m2 d2 (LP.canon (LP.term (-3 * ex) (-1))).2 w' (S3.out.below hb) hs HRB.out.wf hrt.wf
        rw [LP.mulR_canon HRB.out hrt (by rw [← HJD2.out];exact HRJ.out),← HJD2.out,HL1.out] at h
        exact h)
      refine wp_region_noPanic ?_
      refine wp_region_held_drew (S:=fun z => Blk z b6 26 #[.int .i64 l1,.slice A1 n1 c1]) (by kernel_rfl) (K63.out.below (Below.refl _ _).drew hl6) (fun hS => ?_)
      have hD:Below w3.heap.size w3 w3.drew:=(Below.refl _ _).drew
      refine wpAnyH_tk 0 (v:=PV l1 A1 n1 c1) rfl (by kernel_rfl) (by kernel_rfl) (by kernel_rfl) (yi rfl fun w' hw' => gives_loadRow rfl rfl hw' Tryz.underlying26 (by kernel_rfl) (by kernel_rfl)) hS ?_
      go_frame
      refine wpAnyH_tk 1 (v:=.int .i64 (-1)) rfl (by kernel_rfl) (by kernel_rfl) (by kernel_rfl) (yi rfl fun w' hw' => gives_move (.inl rfl) rfl) hS ?_
      go_frame
      refine wpAnyH_tk 2 (v:=.int .i64 ex) rfl (by kernel_rfl) (by kernel_rfl) (by kernel_rfl) (yi rfl fun w' hw' => gives_move (.inl rfl) rfl) hS ?_
      go_frame
      refine wpAnyH_tk 3 (v:=.int .i64 (-3 * ex)) rfl (by kernel_rfl) (by kernel_rfl) (by kernel_rfl) (yi rfl fun w' hw' => gives_mul rfl rfl rfl hmul) hS ?_
      go_frame
      refine wpAnyH_1 4 rfl (by kernel_rfl) ?_
      refine wp_call (l:=[.tmp 31,.tmp 33]) [.int .i64 (-1),.int .i64 (-3 * ex)] rfl rfl eJterm rfl ?_
      refine (HT.out _).mono ?_
      rintro e w4 ⟨v4,rfl,⟨B2,m2,d2,rfl,hs4,hn4⟩,hb4⟩
      have hD4:Below w3.heap.size w3 w4:=hD.trans hb4
      have hS4:=K63.out.below hD4 hl6
      obtain ⟨l2,hl2⟩:∃ y,(LP.canon (LP.term (-3 * ex) (-1))).1 = y:=⟨_,rfl⟩
      have hm4:=HM.out _ hD4 B2 m2 d2 hs4
      rw [hl2] at hm4 ⊢
      refine ⟨_,rfl,hS4,?_⟩
      go_frame
      refine wpAnyH_1 5 rfl (by kernel_rfl) ?_
      refine wp_call (l:=[.tmp 30,.tmp 34]) [PV l1 A1 n1 c1,PV l2 B2 m2 d2] rfl rfl eLMul rfl ?_
      refine hm4.mono ?_
      rintro e w5 ⟨B3',m3,d3,rfl,hs5,hn5,hb5⟩
      obtain ⟨l3,hl3⟩:∃ y,(LP.canon (jon N xs)).1 = y:=⟨_,rfl⟩
      simp only [hl3]
      have hD5:Below w3.heap.size w3 w5:=hD4.trans (hb5.mono hD4.size)
      have hS5:=K63.out.below hD5 hl6
      refine ⟨_,rfl,hS5,?_⟩
      go_frame
      refine wpAnyH_tk 6 (v:=PV l3 B3' m3 d3) rfl (by kernel_rfl) (by kernel_rfl) (by kernel_rfl) (yi rfl fun w' hw' => gives_extract rfl rfl rfl) hS5 ?_
      go_frame
      refine wpAnyH_tk 7 (v:=.int .i64 0) rfl (by kernel_rfl) (by kernel_rfl) (by kernel_rfl) (yi rfl fun w' hw' => gives_extract rfl rfl rfl) hS5 ?_
      go_frame
      refine wpAnyH_1 8 rfl (by kernel_rfl) ?_
      have z3:=Z3.out
      have hk0:=K13.out.below hD5 (by omega)
      refine wp_storeRow rfl rfl rfl hk0 (by kernel_rfl) rfl (by simp [Value.oneCell']) ?_
      have hS6:Blk (w5.setRow w.heap.size #[.int .i64 l3,.slice B3' m3 d3]) b6 26 #[.int .i64 l1,.slice A1 n1 c1]:=(setRow_other _ _ _ _ (by omega)).trans hS5
      refine ⟨hS6,?_⟩
      go_frame
      refine wpAnyH_tk 9 (v:=.int .i64 0) rfl (by kernel_rfl) (by kernel_rfl) (by kernel_rfl) (yi rfl fun w' hw' => gives_move (.inr rfl) rfl) hS6 ?_
      go_frame
      refine wpAnyH_done (by kernel_rfl) (noPanic_mk ?_) _
      have s4:=hD4.size
      have KF:=hide (show Blk (w5.setRow w.heap.size #[.int .i64 l3,.slice B3' m3 d3]) w.heap.size 26 #[.int .i64 l3,.slice B3' m3 d3] from setRow_heap _ _ _ _ _ _ hk0)
      have hfar:0 < m3 → ∀ ad,B3' = some ad → w.heap.size + 1 ≤ ad.block:=fun hn ad e => by have:=hn5 hn ad e;omega
      have SF:=hide (SL.setRow_ hs5 (fun hn ad e => by have:=hfar hn ad e;omega) #[.int .i64 l3,.slice B3' m3 d3] (b:=w.heap.size))
      have NF:=hide hfar
      have BF:=hide (Below.setRow_ (B3.out.trans (hD5.mono (by omega))) (Nat.le_refl w.heap.size) #[.int .i64 l3,.slice B3' m3 d3])
      have HL3:=hide hl3
      clear hS hS4 hS5 hS6 hD hD4 hD5 hs4 hn4 hb4 hs5 hn5 hb5 hk0 hfar hm4 HM HT hrt hl2 hl3 hl6 s4
      go_wp2_with fail
      refine bodyPost_ret (results_pe rfl _ rfl rfl KF.out) rfl ?_
      exact ⟨B3',m3,d3,by rw [HL3.out];rfl,SF.out,fun hn ad e => by have:=NF.out hn ad e;omega,BF.out⟩
  · have hj:=HJE.out
    obtain rfl:(0:LP) = q:=by rw [← HJP.out];unfold joP;rw [if_neg (by rw [hj];exact hf)]
    have f:(z != 0) = true:=by simpa using hf
    clear HJE HJP HJB hj B
    go_wp2_with fail
    refine bodyPost_ret (results_pe rfl _ rfl rfl ((K1.out.set_ 0 (.int .i64 0)).set_ 1 (.slice none 0 0))) rfl ?_
    exact ⟨none,0,0,by rw [LP.canon_zero];rfl,by rw [LP.canon_zero];exact SL.nil_ _,fun h => absurd h (by omega),(B1.out.setCell (p:=⟨w.heap.size,0,none⟩) (Nat.le_refl _) _).setCell (p:=⟨w.heap.size,1,none⟩) (Nat.le_refl _) _⟩
theorem jonesC_of (F:PolyC) (G:TlC) (B:BraidC):JonesC where
  bracket := fun m A n c xs w ha hm => jbracket_any F G B m A n c xs w ha hm -- 45
  poly := fun m A n c xs w ha hm => jpoly_any F G B m A n c xs w ha hm -- 24
end Go.Proofs.YtndgffiihbdppaaGreatDoor
namespace Go.Proofs.YtndgffiihbdppaaGreatDoor
set_option linter.unusedVariables false
set_option linter.unusedSimpArgs false
open Go.RowKit

theorem tisSize_any (m:Int) (w:World) (hm:(Lit.int .i64 m).wf = true):Calls Tryz.prog 92 #[.int .i64 m] w fun e w' => e = .returned (.bool (decide (1 ≤ m ∧ m ≤ 6))) ∧ w = w':=by
  by_cases h1:1 ≤ m
  · have hd1:decide (1 ≤ m) = true:=decide_eq_true h1
    by_cases h2:m ≤ 6
    · have hd2:decide (m ≤ 6) = true:=decide_eq_true h2
      rw [decide_eq_true (show 1 ≤ m ∧ m ≤ 6 from ⟨h1,h2⟩)]
      go_enter Tryz.func92,Tryz.ntmps92
      go_wp2_with fail
      go_ret
      exact ⟨rfl,rfl⟩
    · have hd2:decide (m ≤ 6) = false:=decide_eq_false h2
      rw [decide_eq_false (show ¬ (1 ≤ m ∧ m ≤ 6) from fun h => h2 h.2)]
      go_enter Tryz.func92,Tryz.ntmps92
      go_wp2_with fail
      go_ret
      exact ⟨rfl,rfl⟩
  · have hd1:decide (1 ≤ m) = false:=decide_eq_false h1
    rw [decide_eq_false (show ¬ (1 ≤ m ∧ m ≤ 6) from fun h => h1 h.1)]
    go_enter Tryz.func92,Tryz.ntmps92
    go_wp2_with fail
    go_ret
    exact ⟨rfl,rfl⟩

set_option maxRecDepth 100000 in
theorem connect_any (g n c base i j:Nat) (xs:List Int) (w:World) (h:OwnI w base (some ⟨g,0,none⟩) n c xs) (hi:i < n) (hj:j < n) (hn:n ≤ 1000) :
    Calls Tryz.prog 93 #[.slice (some ⟨g,0,none⟩) n c,.int .i64 i,.int .i64 j] w fun e w' => e = .returned (.tuple #[]) ∧ w' = (w.setCell ⟨g,i,none⟩ (.int .i64 j)).setCell ⟨g,j,none⟩ (.int .i64 i):=by
  have c1:=h.cell hi
  have f1:=h.frozen i
  have h1:=h.set_ i (j:Int)
  have c2:=h1.cell hj
  have f2:=h1.frozen j
  generalize xs.getD i 0 = y1 at *
  generalize (xs.set i (j:Int)).getD j 0 = y2 at *
  clear h h1
  go_enter Tryz.func93,Tryz.ntmps93
  go_wp2_with fail
  go_returns
  exact ⟨rfl,rfl⟩

theorem around_pt (n k:Nat) (w:World) (hn:n ≤ 1000) (hk:k < 2 * n):Calls Tryz.prog 108 #[.int .i64 n,.int .i64 k] w fun e w' => e = .returned (.int .i64 (Tl.posF n k:Nat)) ∧ w = w':=by
  obtain ⟨p,hp⟩:∃ p,Tl.posF n k = p:=⟨_,rfl⟩
  rw [hp]
  by_cases hkn:k < n
  · have hpk:k = p:=by rw [← hp];unfold Tl.posF;rw [if_pos hkn]
    have hd:decide ((k:Int) < (n:Int)) = true:=decide_eq_true (by omega)
    have hdn:decide (k < n) = true:=decide_eq_true (by omega)
    subst hpk
    clear hp hkn
    go_enter Tryz.func108,Tryz.ntmps108
    go_wp2_with fail
    go_ret
    exact ⟨rfl,rfl⟩
  · obtain ⟨T,hT⟩:∃ T,3 * n = T:=⟨_,rfl⟩
    obtain ⟨T1,hT1⟩:∃ T1,T - 1 = T1:=⟨_,rfl⟩
    have hpT:p = T1 - k:=by rw [← hp];unfold Tl.posF;rw [if_neg hkn,hT,hT1]
    have hd:decide ((k:Int) < (n:Int)) = false:=decide_eq_false (by omega)
    have hdn:decide (k < n) = false:=decide_eq_false (by omega)
    have hv1:IntKind.i64.wrap (3 * (n:Int)) = (T:Int):=by rw [IntKind.wrap_i64];omega
    have hv2:IntKind.i64.wrap ((T:Int) - 1) = (T1:Int):=by rw [IntKind.wrap_i64];omega
    have hv3:IntKind.i64.wrap ((T1:Int) - (k:Int)) = (p:Int):=by rw [IntKind.wrap_i64];omega
    clear hp hkn hT hT1 hpT
    go_enter Tryz.func108,Tryz.ntmps108
    go_wp2_with fail
    go_ret
    exact ⟨rfl,rfl⟩

def Tl.okM (n:Nat) (d:List Int):Bool:=decide (d.length = 2 * n) && !(List.range d.length).any (Tl.bdF n d)
set_option maxRecDepth 100000 in
set_option maxHeartbeats 4000000 in
theorem isMatching_any (n:Nat) (A:Option Addr) (l c:Nat) (d:List Int) (w:World) (ha:IL w A l d) (hn:n ≤ 6) :
    Calls Tryz.prog 103 #[.int .i64 n,.slice A l c] w fun e w' => e = .returned (.bool (Tl.okM n d)) ∧ w = w':=by
  have HL:=hide ha.len
  have hls:=ha.small
  have HA:=hide ha
  obtain ⟨R,hR⟩:∃ R,Tl.okM n d = R:=⟨_,rfl⟩
  have HR:=hide hR
  rw [hR]
  clear ha hR
  obtain ⟨N,hN⟩:∃ N,2 * n = N:=⟨_,rfl⟩
  have hw2:IntKind.i64.wrap (2 * (n:Int)) = (N:Int):=by rw [IntKind.wrap_i64];omega
  have HF:Hid (R = (decide (l = N) && !(List.range d.length).any (Tl.bdF n d))):=hide (by rw [← HR.out];unfold Tl.okM;rw [HL.out,hN])
  have HNE:=hide hN
  have hN12:N ≤ 12:=by omega
  clear hN HR
  by_cases h3:l = N
  case neg =>
    have HE:Hid (R = false):=hide (by rw [HF.out,decide_eq_false h3];rfl)
    have hne:=bne_tt h3
    rw [HE.out]
    clear h3 HF
    go_enter Tryz.func103,Tryz.ntmps103
    go_wp2_with fail
    go_ret
    exact ⟨rfl,rfl⟩
  subst h3
  have HF2:Hid (R = !(List.range d.length).any (Tl.bdF n d)):=hide (by rw [HF.out,decide_eq_true rfl];rfl)
  have HBD:Hid (∀ i,Tl.bdF n d i = (decide (d.getD i 0 < 0) || decide ((l:Int) ≤ d.getD i 0) || decide (d.getD i 0 = i) || decide (d.getD (d.getD i 0).toNat 0 ≠ i))):=hide (fun i => by unfold Tl.bdF;rw [show (2 * (n:Int)) = (l:Int) by have:=HNE.out;omega])
  clear HF
  go_enter Tryz.func103,Tryz.ntmps103
  go_wp2_with fail
  go_loop [14] (fun iv => ∃ i:Nat,iv = .int .i64 i ∧ i ≤ l ∧ Hid (∀ j,j < i → Tl.bdF n d j = false)) (fun iv => l - (intOf iv).toNat)
  case atStart => exact ⟨0,rfl,Nat.zero_le _,hide (fun j hj => absurd hj (by omega))⟩
  case round =>
    obtain ⟨i,rfl,hi,HBF⟩:=hrel
    by_cases hli:i < l
    · obtain ⟨ad,rfl,hcl⟩:=HA.out.at_ hli
      have hbi:=HBD.out i
      have HYES:Hid (Tl.bdF n d i = true → R = false):=hide (fun h => by rw [HF2.out,Tl.bdF_one (by rw [HL.out];exact hli) h];rfl)
      have HNO:Hid (Tl.bdF n d i = false → ∀ j,j < i + 1 → Tl.bdF n d j = false):=hide (fun h j hj => by
        by_cases e:j = i
        · rw [e];exact h
        · exact HBF.out j (by omega))
      generalize Tl.bdF n d i = bd at *
      by_cases k1:d.getD i 0 < 0
      · have HE:Hid (R = false):=hide (HYES.out (by rw [hbi,decide_eq_true k1];rfl))
        have kd1:=decide_eq_true k1
        generalize d.getD i 0 = x at *
        clear hbi k1
        go_wp2_with fail
        go_ret
        rw [HE.out]
        exact ⟨rfl,rfl⟩
      have kd1:=decide_eq_false k1
      by_cases k2:(l:Int) ≤ d.getD i 0
      · have HE:Hid (R = false):=hide (HYES.out (by rw [hbi,decide_eq_true k2];simp))
        have kd2:=decide_eq_true k2
        generalize d.getD i 0 = x at *
        clear hbi k1 k2
        go_wp2_with fail
        go_ret
        rw [HE.out]
        exact ⟨rfl,rfl⟩
      have kd2:=decide_eq_false k2
      obtain ⟨u,hu⟩:∃ u:Nat,d.getD i 0 = (u:Int):=⟨(d.getD i 0).toNat,by omega⟩
      rw [hu] at hcl hbi kd1 kd2 k1 k2
      rw [Int.toNat_natCast,kd1,kd2] at hbi
      have hul:u < l:=by omega
      clear hu k1 k2
      by_cases k3:u = i
      · have HE:Hid (R = false):=hide (HYES.out (by rw [hbi,decide_eq_true (show (u:Int) = (i:Int) by rw [k3])];simp))
        have kd3:=beq_tt k3
        clear hbi k3
        go_wp2_with fail
        go_ret
        rw [HE.out]
        exact ⟨rfl,rfl⟩
      have kd3:=beq_ff k3
      rw [decide_eq_false (show ¬ (u:Int) = (i:Int) by omega)] at hbi
      obtain ⟨ad2,e2,hcu⟩:=HA.out.at_ hul
      injection e2 with e2
      subst e2
      by_cases k4:d.getD u 0 = (i:Int)
      · have HN1:=hide (HNO.out (by rw [hbi,decide_eq_false (fun h => h k4)];rfl))
        rw [k4] at hcu
        have kd4:((i:Int) != (i:Int)) = false:=by simp
        clear hbi k3 k4 HYES HNO
        go_wp2_with fail
        go_round
        case rel => exact ⟨i + 1,by go_num,by omega,HN1⟩
        case measure => simp [intOf];omega
      · have HE:Hid (R = false):=hide (HYES.out (by rw [hbi,decide_eq_true k4];simp))
        have kd4:(d.getD u 0 != (i:Int)) = true:=by simpa using k4
        generalize d.getD u 0 = z at *
        clear hbi k3 k4
        go_wp2_with fail
        go_ret
        rw [HE.out]
        exact ⟨rfl,rfl⟩
    · have HE:Hid (R = true):=hide (by
        rw [HF2.out,Tl.bdF_all (fun j hj => HBF.out j (by rw [HL.out] at hj;omega))]
        rfl)
      clear HF2 HBF HBD
      go_wp2_with fail
      go_ret
      rw [HE.out]
      exact ⟨rfl,rfl⟩

def Tl.stG (d:List Int) (st:List Int) (p:Nat):List Int:=if d.getD p 0 = -1 then st else Tl.stF d st p
def Tl.stsG (n:Nat) (d:List Int) (k:Nat):List Int:=(List.range k).foldl (fun st i => Tl.stG d st (Tl.posF n i)) []
theorem Tl.stsG_succ (n:Nat) (d:List Int) (k:Nat):Tl.stsG n d (k + 1) = Tl.stG d (Tl.stsG n d k) (Tl.posF n k):=by unfold Tl.stsG;rw [List.range_succ,List.foldl_append];rfl
theorem Tl.stsG_eq {n:Nat} {d:List Int} (hd:∀ i,i < 2 * n → 0 ≤ d.getD i 0):∀ k,k ≤ 2 * n → Tl.stsG n d k = Tl.stsF n d k
  | 0,_ => rfl
  | k + 1,h => by
    rw [Tl.stsG_succ,Tl.stsF_succ,Tl.stsG_eq hd k (by omega)]
    unfold Tl.stG
    have hp:Tl.posF n k < 2 * n:=by unfold Tl.posF;split <;> omega
    have:=hd _ hp
    rw [if_neg (by omega)]
def Tl.plG (n:Nat) (d:List Int):Bool:=decide (Tl.stsG n d (2 * n) = [])
set_option maxRecDepth 100000 in
set_option maxHeartbeats 8000000 in
theorem isPlanar_any (n:Nat) (A:Option Addr) (l c:Nat) (d:List Int) (w:World) (ha:IL w A l d) (hn1:1 ≤ n) (hn6:n ≤ 6) (hl:l = 2 * n) :
    Calls Tryz.prog 104 #[.int .i64 n,.slice A l c] w fun e w' => e = .returned (.bool (Tl.plG n d)) ∧ Below w.heap.size w w':=by
  have HL:=hide ha.len
  have HA:=hide ha
  have HNE:=hide hl
  obtain ⟨R,hR⟩:∃ R,Tl.plG n d = R:=⟨_,rfl⟩
  have HF3:Hid (R = decide (Tl.stsG n d l = [])):=hide (by rw [← hR,hl];rfl)
  rw [hR]
  have hl12:l ≤ 12:=by omega
  have hl0:0 < l:=by omega
  obtain ⟨i0,hi0,hz0,hz1,hz2⟩:=info_parts int_info
  have HI0:=hide hi0
  have HZ0:=hide hz0
  have HZ1:=hide hz1
  have HZ2:=hide hz2
  have HP:=hide (fun (k:Nat) (hk:k < l) (w':World) => around_pt n k w' (by omega) (by omega))
  clear hi0 hz0 hz1 hz2 hR ha hl
  go_enter Tryz.func104,Tryz.ntmps104
  go_wp2_with fail
  go_loopw [5,11] (fun sv iv wr => ∃ (k q c2:Nat) (S:Option Addr),sv = .slice S q c2 ∧ iv = .int .i64 k ∧ k ≤ l ∧ q ≤ k ∧ Hid (OwnI wr w.heap.size S q c2 (Tl.stsG n d k)) ∧ Hid (Below w.heap.size w wr)) (fun _ iv _ => l - (intOf iv).toNat)
  case atStart => exact ⟨0,0,0,none,rfl,rfl,Nat.zero_le _,Nat.le_refl _,hide (OwnI.nil_ _ _),hide (Below.refl _ _)⟩
  case round =>
    obtain ⟨k,q,c2,S,rfl,rfl,hk,hqk,HO,HB⟩:=hrel
    by_cases hlt:k < l
    · have HST:=hide (Tl.stsG_succ n d k)
      have hll:=HO.out.len
      have HPK:=hide (HP.out k hlt wr)
      obtain ⟨p,hp⟩:∃ p,Tl.posF n k = p:=⟨_,rfl⟩
      rw [hp] at HST HPK
      have hpl:p < l:=by
        have:=HNE.out
        rw [← hp]
        unfold Tl.posF
        split <;> omega
      obtain ⟨ad,rfl,hcp⟩:=(HA.out.below HB.out).at_ hpl
      obtain ⟨L,hL⟩:∃ L,Tl.stsG n d k = L:=⟨_,rfl⟩
      obtain ⟨L2,hL2⟩:∃ L,Tl.stsG n d (k + 1) = L:=⟨_,rfl⟩
      have HL2:=hide hL2
      rw [hL] at HO HST hll
      rw [hL2] at HST
      unfold Tl.stG Tl.stF at HST
      rw [hll] at HST
      generalize hy:d.getD p 0 = y at *
      clear hL hL2 hy hp
      go_wp2_with fail
      refine HPK.out.mono ?_
      rintro e w1 ⟨rfl,hww⟩
      subst hww
      clear HPK
      by_cases hy1:y = -1
      · have HS:Hid (L2 = L):=hide (by rw [HST.out,if_pos hy1])
        subst hy1
        clear HST hll
        go_wp2_with fail
        go_roundw
        case rel => exact ⟨k + 1,q,c2,S,rfl,by go_num,by omega,by omega,by rw [HL2.out,HS.out];exact HO,HB⟩
        case measure => simp [intOf];omega
      have hyb:(y == -1) = false:=by simpa using hy1
      have HST2:Hid (L2 = if 0 < q ∧ L.getD (q - 1) 0 = y then L.take (q - 1) else L ++ [(p:Int)]):=hide (by rw [HST.out,if_neg hy1])
      clear HST hy1
      by_cases hq0:q = 0
      · have HS:Hid (L2 = L ++ [(p:Int)]):=hide (by rw [HST2.out,if_neg (fun h => absurd h.1 (by omega))])
        have hv:IntKind.i64.wrap ((q:Int) - 1) = -1:=by rw [IntKind.wrap_i64];omega
        clear HST2 hq0 hll
        first
        | (
          go_upto_region 8 with fail
          go_quiet (fail)
          go_wp2_with (at_builtin;refine wpList_append_int _ rfl (.tmp 41) (.tmp 43) 23 rfl w.heap.size i0 Tryz.underlying23 HI0.out HZ0.out HZ1.out HZ2.out S q c2 L rfl ((HO.out.drewN _).alloc _) (some ⟨_,0,none⟩) 1 1 [(p:Int)] rfl (IL.lit _ [(p:Int)] (by simp) rfl rfl) (by omega) (by have:=HB.out.size;simp;omega) ?_;intro A8 c8 w8 hap)
          have hN:=hap.own
          rw [← HS.out] at hN
          have HN:=hide hN
          have HB8:=hide (((below_drewN HB.out nq).alloc (by have:=HB.out.size;exact this) (.cells #[.int .i64 (p:Int)] 3)).grown hap.grown (by have:=HB.out.size;simp;omega) (fun j hj => (HO.out.lt j (by rw [ownBlock_len S q (q + 1) c2 c2];exact hj)).1))
          clear hap hN
          go_roundw
          case rel => exact ⟨k + 1,q + 1,c8,A8,by go_num,by go_num,by omega,by omega,by rw [HL2.out];exact HN,HB8⟩
          case measure => simp [intOf];omega)
      · obtain ⟨g,rfl,hg1,hg2⟩:=HO.out.form (by omega)
        obtain ⟨r,hr⟩:∃ r,q - 1 = r:=⟨_,rfl⟩
        have hrq:r < q:=by omega
        have hv:IntKind.i64.wrap ((q:Int) - 1) = (r:Int):=by rw [IntKind.wrap_i64];omega
        have hcap:=HO.out.cap
        have hrc:(r:Int) ≤ (c2:Int):=by omega
        have hrc2:r ≤ c2:=by omega
        have hcs:=HO.out.cell hrq
        have hge0:decide ((0:Int) ≤ (r:Int)) = true:=decide_eq_true (by omega)
        rw [hr] at HST2
        have HSH:Hid (OwnI wr w.heap.size (some ⟨g,0,none⟩) r c2 (L.take r)):=hide (HO.out.shrink (by omega) (by omega))
        by_cases hz:L.getD r 0 = y
        · have HS:Hid (L2 = L.take r):=hide (by rw [HST2.out,if_pos ⟨by omega,hz⟩])
          rw [← HS.out] at HSH
          rw [hz] at hcs
          have hzz:(y == y) = true:=by simp
          clear HST2 hz hll hr hq0
          first
          | (
            go_upto_region 8 with fail
            go_quiet (fail)
            go_wp2_with fail
            go_roundw
            case rel => exact ⟨k + 1,r,c2,_,rfl,by go_num,by omega,by omega,by rw [HL2.out];exact hide (HSH.out.drewN _),hide (below_drewN HB.out _)⟩
            case measure => simp [intOf];omega)
        · have HS:Hid (L2 = L ++ [(p:Int)]):=hide (by rw [HST2.out,if_neg (fun h => hz h.2)])
          have hzz:(L.getD r 0 == y) = false:=by simpa using hz
          generalize L.getD r 0 = z at *
          clear HST2 hz hll hr hq0
          first
          | (
            go_upto_region 8 with fail
            go_quiet (fail)
            go_wp2_with (at_builtin;refine wpList_append_int _ rfl (.tmp 41) (.tmp 43) 23 rfl w.heap.size i0 Tryz.underlying23 HI0.out HZ0.out HZ1.out HZ2.out (some ⟨g,0,none⟩) q c2 L rfl ((HO.out.drewN _).alloc _) (some ⟨_,0,none⟩) 1 1 [(p:Int)] rfl (IL.lit _ [(p:Int)] (by simp) rfl rfl) (by omega) (by have:=HB.out.size;simp;omega) ?_;intro A8 c8 w8 hap)
            have hN:=hap.own
            rw [← HS.out] at hN
            have HN:=hide hN
            have HB8:=hide (((below_drewN HB.out nq).alloc (by have:=HB.out.size;exact this) (.cells #[.int .i64 (p:Int)] 3)).grown hap.grown (by have:=HB.out.size;simp;omega) (fun j hj => (HO.out.lt j (by rw [ownBlock_len (some ⟨g,0,none⟩) q (q + 1) c2 c2];exact hj)).1))
            clear hap hN
            go_roundw
            case rel => exact ⟨k + 1,q + 1,c8,A8,by go_num,by go_num,by omega,by omega,by rw [HL2.out];exact HN,HB8⟩
            case measure => simp [intOf];omega)
    · have hkl:k = l:=by omega
      have HE:Hid (R = decide (q = 0)):=hide (by
        rw [HF3.out,← hkl]
        have hll:=HO.out.len
        by_cases h0:0 < q
        · rw [decide_eq_false (show ¬ q = 0 by omega),decide_eq_false]
          intro e
          rw [e] at hll
          simp at hll
          omega
        · rw [decide_eq_true (show q = 0 by omega),decide_eq_true]
          exact List.eq_nil_of_length_eq_zero (by omega))
      clear hkl HO
      by_cases h0:q = 0
      · have hd0:((q:Int) == 0) = true:=by simpa using h0
        have HE2:Hid (R = true):=hide (by rw [HE.out,decide_eq_true h0])
        clear h0 HE HF3 HP
        go_wp2_with fail
        go_ret
        rw [HE2.out]
        exact ⟨rfl,HB.out⟩
      · have hd0:((q:Int) == 0) = false:=by simpa using h0
        have HE2:Hid (R = false):=hide (by rw [HE.out,decide_eq_false h0])
        clear h0 HE HF3 HP
        go_wp2_with fail
        go_ret
        rw [HE2.out]
        exact ⟨rfl,HB.out⟩

set_option maxRecDepth 100000 in
set_option maxHeartbeats 4000000 in
theorem tcheck_any (m:Int) (A:Option Addr) (n c:Nat) (d:List Int) (w:World) (ha:SL w A n c d) (hm:(Lit.int .i64 m).wf = true) :
    Calls Tryz.prog 94 #[.int .i64 m,.slice A n c] w fun e w' => e = .returned (.int .i64 (Tl.mtF m d)) ∧ Below w.heap.size w w':=by
  obtain ⟨R,hR⟩:∃ R,Tl.mtF m d = R:=⟨_,rfl⟩
  rw [hR]
  have HS:=hide (tisSize_any m w hm)
  by_cases h1:1 ≤ m ∧ m ≤ 6
  case neg =>
    have HE:Hid (R = 1):=hide (by rw [← hR];unfold Tl.mtF;rw [if_pos (by omega)])
    rw [decide_eq_false h1] at HS
    clear hR h1 hm
    go_enter Tryz.func94,Tryz.ntmps94
    go_wp2_with fail
    refine HS.out.mono ?_
    rintro e w1 ⟨rfl,hww⟩
    subst hww
    go_wp2_with fail
    go_ret
    rw [HE.out]
    exact ⟨rfl,Below.refl _ _⟩
  obtain ⟨k,rfl⟩:∃ k:Nat,m = (k:Int):=⟨m.toNat,by omega⟩
  have HM:=hide (isMatching_any k A n c d w ha.il (by omega))
  obtain ⟨B,hB⟩:∃ B,Tl.okM k d = B:=⟨_,rfl⟩
  rw [hB] at HM
  rw [decide_eq_true h1] at HS
  have hlen:=ha.il.len
  cases B with
  | false =>
    have HE:Hid (R = 3):=hide (by
      rw [← hR]
      unfold Tl.mtF
      rw [if_neg (by omega),Int.toNat_natCast]
      unfold Tl.okM at hB
      by_cases h2:d.length = 2 * k
      · rw [if_neg (fun h => h h2),if_pos]
        rw [decide_eq_true h2] at hB
        simpa using hB
      · rw [if_pos h2])
    clear hR h1 hm hB hlen
    go_enter Tryz.func94,Tryz.ntmps94
    go_wp2_with fail
    refine HS.out.mono ?_
    rintro e w1 ⟨rfl,hww⟩
    subst hww
    go_wp2_with fail
    refine HM.out.mono ?_
    rintro e w1 ⟨rfl,hww⟩
    subst hww
    go_wp2_with fail
    go_ret
    rw [HE.out]
    exact ⟨rfl,Below.refl _ _⟩
  | true =>
    have hB2:d.length = 2 * k ∧ (List.range d.length).any (Tl.bdF k d) = false:=by
      unfold Tl.okM at hB
      rw [Bool.and_eq_true,decide_eq_true_eq] at hB
      exact ⟨hB.1,by simpa using hB.2⟩
    have HPL:=hide (isPlanar_any k A n c d w ha.il (by omega) (by omega) (by omega))
    have HE:Hid (R = if Tl.plG k d = true then 0 else 3):=hide (by
      rw [← hR]
      unfold Tl.mtF Tl.plG
      rw [if_neg (by omega),Int.toNat_natCast,if_neg (fun h => h hB2.1),if_neg (by rw [hB2.2];simp),Tl.stsG_eq (fun i hi => ?_) _ (Nat.le_refl _)]
      · by_cases e:Tl.stsF k d (2 * k) = []
        · rw [if_neg (fun h => h e),if_pos (decide_eq_true e)]
        · rw [if_pos e,if_neg (by simpa using e)]
      · have h4:=hB2.2
        rw [List.any_eq_false] at h4
        have h5:=h4 i (List.mem_range.2 (by omega))
        unfold Tl.bdF at h5
        simp only [Bool.or_eq_true,decide_eq_true_eq,not_or] at h5
        omega)
    generalize Tl.plG k d = P at *
    clear hR h1 hm hB hlen hB2
    go_enter Tryz.func94,Tryz.ntmps94
    go_wp2_with fail
    refine HS.out.mono ?_
    rintro e w1 ⟨rfl,hww⟩
    subst hww
    go_wp2_with fail
    refine HM.out.mono ?_
    rintro e w1 ⟨rfl,hww⟩
    subst hww
    go_wp2_with fail
    refine HPL.out.mono ?_
    rintro e w2 ⟨rfl,hb⟩
    cases P with
    | true =>
      go_wp2_with fail
      go_ret
      rw [show R = 0 by rw [HE.out];simp]
      exact ⟨rfl,hb⟩
    | false =>
      go_wp2_with fail
      go_ret
      rw [show R = 3 by rw [HE.out];simp]
      exact ⟨rfl,hb⟩
end Go.Proofs.YtndgffiihbdppaaGreatDoor
