/- Several texts in one. -/
import Derived.Test.YtndgffiihbdppaaGreatDoorPart19
import Derived.Test.YtndgffiihbdppaaGreatDoorPart13
import Derived.Test.YtndgffiihbdppaaGreatDoorPart1
import Derived.Test.YtndgffiihbdppaaGreatDoorPart12
import Derived.Test.YtndgffiihbdppaaGreatDoorBase1
import Derived.Test.YtndgffiihbdppaaGreatDoorPart14
import Derived.Test.YtndgffiihbdppaaGreatDoorPart2
namespace Go.Proofs.YtndgffiihbdppaaGreatDoor
set_option linter.unusedVariables false
set_option linter.unusedSimpArgs false
open Go.RowKit

theorem eAlMul:∀ args w,(callFunc 47 args).run Tryz.prog w = .ok (.enter 47 args) w:=enters (fn:=Tryz.f47) (by kernel_rfl) (by kernel_rfl) (by kernel_rfl)
theorem eAlSub:∀ args w,(callFunc 34 args).run Tryz.prog w = .ok (.enter 34 args) w:=enters (fn:=Tryz.f34) (by kernel_rfl) (by kernel_rfl) (by kernel_rfl)
theorem al_mul (F:PolyC) {x y:LP} (hx:LP.Rt x) (hy:LP.Rt y) (hz:LP.Rt (x * y)) (w:World) (A:Option Addr) (n c:Nat) (B:Option Addr) (m d:Nat) (ha:SL w A n c (LP.canon x).2) (hb:SL w B m d (LP.canon y).2) :
    Calls Tryz.prog 47 #[PV (LP.canon x).1 A n c,PV (LP.canon y).1 B m d] w (GivesPE w (0,(LP.canon (x * y)).1,(LP.canon (x * y)).2)):=by
  have h:=F.mul (LP.canon x).1 A n c (LP.canon x).2 (LP.canon y).1 B m d (LP.canon y).2 w ha hb hx.wf hy.wf
  rw [LP.mulR_canon hx hy hz] at h
  exact h
theorem al_add (F:PolyC) {x y:LP} (hx:LP.Rt x) (hy:LP.Rt y) (hz:LP.Rt (x + y)) (w:World) (A:Option Addr) (n c:Nat) (B:Option Addr) (m d:Nat) (ha:SL w A n c (LP.canon x).2) (hb:SL w B m d (LP.canon y).2) :
    Calls Tryz.prog 33 #[PV (LP.canon x).1 A n c,PV (LP.canon y).1 B m d] w (GivesPE w (0,(LP.canon (x + y)).1,(LP.canon (x + y)).2)):=by
  have h:=F.add (LP.canon x).1 A n c (LP.canon x).2 (LP.canon y).1 B m d (LP.canon y).2 w ha hb hx.wf hy.wf
  rw [LP.addR_canon hx hy hz] at h
  exact h
theorem al_sub (F:PolyC) {x y:LP} (hx:LP.Rt x) (hy:LP.Rt y) (hz:LP.Rt (x + -y)) (w:World) (A:Option Addr) (n c:Nat) (B:Option Addr) (m d:Nat) (ha:SL w A n c (LP.canon x).2) (hb:SL w B m d (LP.canon y).2) :
    Calls Tryz.prog 34 #[PV (LP.canon x).1 A n c,PV (LP.canon y).1 B m d] w (GivesPE w (0,(LP.canon (x + -y)).1,(LP.canon (x + -y)).2)):=by
  have h:=F.sub (LP.canon x).1 A n c (LP.canon x).2 (LP.canon y).1 B m d (LP.canon y).2 w ha hb hx.wf hy.wf
  rw [LP.subR_canon hx hy hz] at h
  exact h

set_option maxRecDepth 100000 in
set_option maxHeartbeats 8000000 in
theorem rtc_any (F:PolyC) (A:Option Addr) (n c:Nat) (ps:List Po) (B:Option Addr) (m d:Nat) (pss:List (List Po)) (j:Nat) (X Y:Nat → LP) (w:World) (ha:SPo w A n c ps) (hb:SPP w B m d pss) (hnm:n ≤ m)
    (hX:∀ k,k < n → ps.getD k (0,[]) = cP (X k)) (hY:∀ k,k < n → (pss.getD k []).getD j (0,[]) = cP (Y k)) (hl:∀ k,k < n → j < (pss.getD k []).length)
    (rX:∀ k,k < n → LP.Rt (X k)) (rY:∀ k,k < n → LP.Rt (Y k)) (rP:∀ k,k < n → LP.Rt (X k * Y k)) (rS:∀ k,k ≤ n → LP.Rt (CR.sumN k fun i => X i * Y i)) :
    Calls Tryz.prog 36 #[.slice A n c,.slice B m d,.int .i64 j] w (GivesP w (LP.canon (CR.sumN n fun i => X i * Y i)).1 (LP.canon (CR.sumN n fun i => X i * Y i)).2):=by
  have HM:=hide (fun k (hk:k < n) => al_mul F (rX k hk) (rY k hk) (rP k hk))
  obtain ⟨S,hS⟩:∃ S:Nat → LP,(fun k => CR.sumN k fun i => X i * Y i) = S:=⟨_,rfl⟩
  have hS0:LP.canon (S 0) = (0,[]):=by rw [← hS];exact LP.canon_zero
  have HD:=hide (fun k (hk:k < n) => (by
    have h:=al_add F (rS k (by omega)) (rP k hk) (by have:=rS (k + 1) hk;rwa [CR.sumN_succ] at this)
    rw [← CR.sumN_succ k (fun i => X i * Y i)] at h
    have e:∀ i,(CR.sumN i fun i => X i * Y i) = S i:=fun i => congrFun hS i
    rw [e,e] at h
    exact h :
    ∀ (w:World) (A:Option Addr) (n c:Nat) (B:Option Addr) (m d:Nat),SL w A n c (LP.canon (S k)).2 → SL w B m d (LP.canon (X k * Y k)).2 → Calls Tryz.prog 33 #[PV (LP.canon (S k)).1 A n c,PV (LP.canon (X k * Y k)).1 B m d] w (GivesPE w (0,(LP.canon (S (k + 1))).1,(LP.canon (S (k + 1))).2))))
  have eS:(CR.sumN n fun i => X i * Y i) = S n:=congrFun hS n
  rw [eS]
  have HA:=hide ha
  have HB:=hide hb
  have HXX:=hide hX
  have HYY:=hide hY
  have HLL:=hide hl
  have HNM:=hide hnm
  have hsm:=ha.small
  have HS0:=hide hS0
  clear ha hb hX hY hl rX rY rP rS hS eS F hS0 hnm
  obtain ⟨W0,hW0⟩:∃ W,(w.alloc (.cells #[.int .i64 0,.slice none 0 0] 26)).alloc (.cells #[.int .i64 0,.slice none 0 0] 26) = W:=⟨_,rfl⟩
  have hb0:Below w.heap.size w W0:=by
    rw [← hW0]
    exact ((Below.refl _ _).alloc (Nat.le_refl _) _).alloc (by simp) _
  have K6:Hid (Blk W0 w.heap.size 26 #[.int .i64 0,.slice none 0 0]):=hide (by rw [← hW0];exact (Blk.new w _ _).alloc _)
  have K7:Hid (Blk W0 (w.heap.size + 1) 26 #[.int .i64 (LP.canon (S 0)).1,.slice none 0 0]):=hide (by
    rw [← hW0,HS0.out]
    have h:=Blk.new (w.alloc (.cells #[.int .i64 0,.slice none 0 0] 26)) 26 #[.int .i64 0,.slice none 0 0]
    simpa using h)
  have HW:=hide hb0
  have SR:Hid (SL W0 none 0 0 (LP.canon (S 0)).2):=hide (by rw [HS0.out];exact SL.nil_ _)
  clear hb0
  go_enter Tryz.func36,Tryz.ntmps36
  go_upto_region 2 with fail
  clear HS0
  obtain ⟨b6,hb6⟩:∃ b,w.heap.size = b:=⟨_,rfl⟩
  rw [hb6] at K6 K7 ⊢
  obtain ⟨b7,hb7⟩:∃ b,b6 + 1 = b:=⟨_,rfl⟩
  rw [hb7] at K7 ⊢
  have h67:b6 ≠ b7:=by omega
  have HWB:Hid (w.heap.size ≤ b6 ∧ w.heap.size ≤ b7):=hide (by omega)
  clear hW0 hb6 hb7
  go_wp2_with fail
  go_loopw [14] (fun iv wx => ∃ (k:Nat) (R:Option Addr) (rn rc:Nat),iv = .int .i64 k ∧ k ≤ n ∧ Hid (Blk wx b6 26 #[.int .i64 0,.slice none 0 0]) ∧ Hid (Blk wx b7 26 #[.int .i64 (LP.canon (S k)).1,.slice R rn rc]) ∧ Hid (SL wx R rn rc (LP.canon (S k)).2) ∧ Hid (0 < rn → ∀ ad,R = some ad → b6 < ad.block ∧ b7 < ad.block) ∧ Hid (Below w.heap.size w wx)) (fun iv _ => n - (intOf iv).toNat)
  case atStart => exact ⟨0,none,0,0,rfl,Nat.zero_le _,K6,K7,SR,hide (fun h => absurd h (by omega)),HW⟩
  case round =>
    clear K6 K7 HW SR
    obtain ⟨k,R,rn,rc,rfl,hk,K6,K7,SR,HN,HW⟩:=hrel
    by_cases hlt:k < n
    · obtain ⟨ad,P,pn,pc,hA,q0,q1,sp,_⟩:=(HA.out.below HW.out).at_ hlt
      obtain ⟨bd,Q,qn,qc,hB,q2,sq⟩:=(HB.out.below HW.out).at_ (Nat.lt_of_lt_of_le hlt HNM.out)
      have hjq:j < qn:=by rw [← sq.len];exact HLL.out k hlt
      obtain ⟨cd,T,tn,tc,hQ,q3,q4,st,_⟩:=sq.at_ hjq
      rw [HXX.out k hlt] at q0 sp
      rw [HYY.out k hlt] at q3 st
      have HMK:=hide (HM.out k hlt)
      have HDK:=hide (HD.out k hlt)
      subst hA
      subst hB
      subst hQ
      rw [show bd.add k = bd.add (k * 1) by rw [Nat.mul_one]] at q2
      dsimp only [cP] at q0 sp q3 st
      generalize X k * Y k = xy at *
      generalize X k = x at *
      generalize Y k = y at *
      have hb:Below wr.heap.size wr (wr.alloc (.cells #[.int .i64 (LP.canon x).1,.slice P pn pc] 26)):=(Below.refl _ _).alloc (Nat.le_refl _) _
      have Q2:=hide ((hb.cell (p:=bd.add (k * 1)) (cell_lt q2)).trans q2)
      have Q3:=hide ((hb.cell (p:=cd.add (j * 2)) (cell_lt q3)).trans q3)
      have Q4:=hide ((hb.cell (p:=⟨(cd.add (j * 2)).block,(cd.add (j * 2)).off + 1,none⟩) (cell_lt q4)).trans q4)
      have SP:=hide (sp.below hb)
      have ST:=hide (st.below hb)
      replace SR:=hide (SR.out.below hb)
      replace HW:=hide (HW.out.trans (hb.mono HW.out.size))
      have l6:=K6.out.lt
      have l7:=K7.out.lt
      replace K6:=hide (K6.out.below hb l6)
      replace K7:=hide (K7.out.below hb l7)
      have BP:=hide (Blk.new wr 26 #[.int .i64 (LP.canon x).1,.slice P pn pc])
      have HJQ:=hide hjq
      have HKM:=hide (Nat.lt_of_lt_of_le hlt HNM.out)
      clear sp st sq q2 q3 q4 hb hjq l6 l7
      go_upto_region 5 with fail
      obtain ⟨bp,hq⟩:∃ q,wr.heap.size = q:=⟨_,rfl⟩
      obtain ⟨w1,hw⟩:∃ wq,wr.alloc (.cells #[.int .i64 (LP.canon x).1,.slice P pn pc] 26) = wq:=⟨_,rfl⟩
      rw [hw] at Q2 Q3 Q4 SP ST SR HW K6 K7 BP ⊢
      rw [hq] at BP ⊢
      clear hw hq q0 q1
      have LP0:=hide BP.out.lt
      obtain ⟨g3,o3,h3⟩:=cell_at_var Q3.out
      rw [h3] at Q3 Q4
      have HL2:=hide (cell_lt Q2.out)
      have HL3:=hide (cell_lt Q3.out)
      go_cut [10,11,19,20,21,22,23,24,25,26,27,28,29,30] (fun v u _ _ _ _ _ _ _ _ _ _ _ _ wx => ∃ bG G gn gc,v = .pointer (some ⟨bG,0,none⟩) ∧ u = .int .i64 0 ∧ Blk wx bG 26 #[.int .i64 (LP.canon xy).1,.slice G gn gc] ∧ SL wx G gn gc (LP.canon xy).2 ∧ Below w1.heap.size w1 wx)
      case first =>
        refine wp_region_noPanic ?_
        refine wp_region_held_drew (S:=fun x => Below w1.heap.size w1 x) (by kernel_rfl) (Below.refl _ _).drew (fun hS0 => ?_)
        refine wpAnyH_tk 0 (v:=PV (LP.canon x).1 P pn pc) rfl (by kernel_rfl) (by kernel_rfl) (by kernel_rfl) (yi rfl fun w' hw' => gives_loadRow rfl rfl (BP.out.below hw' LP0.out) Tryz.underlying26 (by kernel_rfl) (by kernel_rfl)) hS0 ?_
        go_frame
        refine wpAnyH_tk 1 (v:=.slice (some bd) m d) rfl (by kernel_rfl) (by kernel_rfl) (by kernel_rfl) (yi rfl fun w' hw' => gives_move (.inl rfl) rfl) hS0 ?_
        go_frame
        refine wpAnyH_tk 2 (v:=.int .i64 k) rfl (by kernel_rfl) (by kernel_rfl) (by kernel_rfl) (yi rfl fun w' hw' => gives_move (.inl rfl) rfl) hS0 ?_
        go_frame
        refine wpAnyH_tk 3 (v:=.pointer (some (bd.add (k * 1)))) rfl (by kernel_rfl) (by kernel_rfl) (by kernel_rfl) (yi rfl fun w' hw' => gives_indexSlice rfl Tryz.underlying45 (fun w => by kernel_rfl) rfl rfl HKM.out) hS0 ?_
        go_frame
        refine wpAnyH_tk 4 (v:=.slice (some cd) qn qc) rfl (by kernel_rfl) (by kernel_rfl) (by kernel_rfl) (yi rfl fun w' hw' => gives_load1 rfl (by kernel_rfl) rfl ((hw'.cell (p:=bd.add (k * 1)) HL2.out).trans Q2.out)) hS0 ?_
        go_frame
        refine wpAnyH_tk 5 (v:=.int .i64 j) rfl (by kernel_rfl) (by kernel_rfl) (by kernel_rfl) (yi rfl fun w' hw' => gives_move (.inl rfl) rfl) hS0 ?_
        go_frame
        refine wpAnyH_tk 6 (v:=.pointer (some (cd.add (j * 2)))) rfl (by kernel_rfl) (by kernel_rfl) (by kernel_rfl) (yi rfl fun w' hw' => gives_indexSlice rfl Tryz.underlying67 (fun w => by kernel_rfl) rfl rfl HJQ.out) hS0 ?_
        go_frame
        rw [h3]
        refine wpAnyH_tk 7 (v:=PV (LP.canon y).1 T tn tc) rfl (by kernel_rfl) (by kernel_rfl) (by kernel_rfl) (yi rfl fun w' hw' => gives_loadMid (cs:=[.int .i64 (LP.canon y).1,.slice T tn tc]) rfl rfl (rangeAt_two ((hw'.cell (p:=⟨g3,o3,none⟩) HL3.out).trans Q3.out) ((hw'.cell (p:=⟨g3,o3 + 1,none⟩) HL3.out).trans Q4.out)) Tryz.underlying26 (by kernel_rfl) (by kernel_rfl)) hS0 ?_
        go_frame
        refine wpAnyH_2 8 12 rfl rfl (by kernel_rfl) ?_ ?_
        · refine wp_call [PV (LP.canon x).1 P pn pc,PV (LP.canon y).1 T tn tc] rfl rfl eAlMul rfl ((HMK.out w1.drew P pn pc T tn tc (SP.out.below hS0) (ST.out.below hS0)).mono ?_)
          rintro e u1 ⟨G,gn,gc,rfl,hs,hN,hb⟩
          dsimp only at hs ⊢
          have hS1:Below w1.heap.size w1 u1:=hS0.trans (hb.mono hS0.size)
          have SG:=hide hs
          clear hb hs
          refine ⟨_,rfl,hS1,?_⟩
          go_frame
          refine wpAnyH_tk 9 (v:=.tuple #[PV (LP.canon xy).1 G gn gc,.int .i64 0]) rfl (by kernel_rfl) (by kernel_rfl) (by kernel_rfl) (yi rfl fun w' hw' => gives_move (.inl rfl) rfl) hS1 ?_
          go_frame
          refine wpAnyH_tk 10 (v:=PV (LP.canon xy).1 G gn gc) rfl (by kernel_rfl) (by kernel_rfl) (by kernel_rfl) (yi rfl fun w' hw' => gives_extract rfl rfl rfl) hS1 ?_
          go_frame
          refine wpAnyH_tk 11 (v:=.int .i64 0) rfl (by kernel_rfl) (by kernel_rfl) (by kernel_rfl) (yi rfl fun w' hw' => gives_extract rfl rfl rfl) hS1 ?_
          go_frame
          refine wpAnyH_1 12 rfl (by kernel_rfl) ?_
          have hS2:Below w1.heap.size w1 (u1.alloc (.cells #[.int .i64 0,.slice none 0 0] 26)):=hS1.alloc hS1.size _
          have hb:Below u1.heap.size u1 (u1.alloc (.cells #[.int .i64 0,.slice none 0 0] 26)):=(Below.refl _ _).alloc (Nat.le_refl _) _
          have g_bG:w1.heap.size ≤ u1.heap.size:=hS1.size
          have ne_bG:0 < gn → ∀ ad,G = some ad → ad.block ≠ u1.heap.size:=fun h ad e => by obtain ⟨ad2,e2,hl,_⟩:=SG.out.il.mem h;rw [e] at e2;cases e2;omega
          replace SG:=hide (SG.out.below hb)
          have BG:=hide (Blk.new u1 26 #[.int .i64 0,.slice none 0 0])
          refine wp_alloc (z:=.agg #[.int .i64 0,.slice none 0 0]) (cs:=#[.int .i64 0,.slice none 0 0]) rfl (by kernel_rfl) rfl ⟨hS2,?_⟩
          obtain ⟨bG,hq⟩:∃ q,u1.heap.size = q:=⟨_,rfl⟩
          rw [hq] at BG g_bG ne_bG ⊢
          obtain ⟨u2,hw⟩:∃ x,u1.alloc (.cells #[.int .i64 0,.slice none 0 0] 26) = x:=⟨_,rfl⟩
          rw [hw] at hS2 BG SG ⊢
          clear hb hw hq
          go_frame
          refine wpAnyH_1 13 rfl (by kernel_rfl) ?_
          have hS3:Below w1.heap.size w1 (u2.setRow bG #[.int .i64 (LP.canon xy).1,.slice G gn gc]):=Below.setRow_ hS2 g_bG _
          refine wp_storeRow rfl rfl rfl BG.out (by kernel_rfl) rfl (by kernel_rfl) ⟨hS3,?_⟩
          replace SG:=hide (SG.out.setRow_ ne_bG #[.int .i64 (LP.canon xy).1,.slice G gn gc])
          have hbk2:Blk (u2.setRow bG #[.int .i64 (LP.canon xy).1,.slice G gn gc]) bG 26 #[.int .i64 (LP.canon xy).1,.slice G gn gc]:=setRow_heap _ _ _ _ _ _ BG.out
          replace BG:=hide hbk2
          clear hbk2
          go_frame
          refine wpAnyH_tk 14 (v:=.int .i64 0) rfl (by kernel_rfl) (by kernel_rfl) (by kernel_rfl) (yi rfl fun w' hw' => gives_move (.inr rfl) rfl) hS3 ?_
          go_frame
          refine wpAnyH_done (by kernel_rfl) (noPanic_mk ?_) _
          go_wp2_with fail
          go_meet
          exact ⟨bG,G,gn,gc,rfl,rfl,BG.out,SG.out,hS3⟩
        · have hS4:Below w1.heap.size w1 (w1.drew.alloc (.cells #[.int .i64 0,.slice none 0 0] 26)):=hS0.alloc hS0.size _
          have hb:Below w1.drew.heap.size w1.drew (w1.drew.alloc (.cells #[.int .i64 0,.slice none 0 0] 26)):=(Below.refl _ _).alloc (Nat.le_refl _) _
          have g_bG:w1.heap.size ≤ w1.drew.heap.size:=hS0.size
          have BG:=hide (Blk.new w1.drew 26 #[.int .i64 0,.slice none 0 0])
          refine wp_alloc (z:=.agg #[.int .i64 0,.slice none 0 0]) (cs:=#[.int .i64 0,.slice none 0 0]) rfl (by kernel_rfl) rfl ⟨hS4,?_⟩
          obtain ⟨bG,hq⟩:∃ q,w1.drew.heap.size = q:=⟨_,rfl⟩
          rw [hq] at BG g_bG  ⊢
          obtain ⟨u4,hw⟩:∃ x,w1.drew.alloc (.cells #[.int .i64 0,.slice none 0 0] 26) = x:=⟨_,rfl⟩
          rw [hw] at hS4 BG ⊢
          clear hb hw hq
          go_frame
          refine wpAnyH_1 8 rfl (by kernel_rfl) ?_
          refine wp_call [PV (LP.canon x).1 P pn pc,PV (LP.canon y).1 T tn tc] rfl rfl eAlMul rfl ((HMK.out u4 P pn pc T tn tc (SP.out.below hS4) (ST.out.below hS4)).mono ?_)
          rintro e u5 ⟨G,gn,gc,rfl,hs,hN,hb⟩
          dsimp only at hs ⊢
          have hS5:Below w1.heap.size w1 u5:=hS4.trans (hb.mono hS4.size)
          have ne_bG:0 < gn → ∀ ad,G = some ad → ad.block ≠ bG:=fun h ad e => by have:=hN h ad e;have:=BG.out.lt;omega
          replace BG:=hide (BG.out.below hb BG.out.lt)
          have SG:=hide hs
          clear hb hs
          refine ⟨_,rfl,hS5,?_⟩
          go_frame
          refine wpAnyH_tk 9 (v:=.tuple #[PV (LP.canon xy).1 G gn gc,.int .i64 0]) rfl (by kernel_rfl) (by kernel_rfl) (by kernel_rfl) (yi rfl fun w' hw' => gives_move (.inl rfl) rfl) hS5 ?_
          go_frame
          refine wpAnyH_tk 10 (v:=PV (LP.canon xy).1 G gn gc) rfl (by kernel_rfl) (by kernel_rfl) (by kernel_rfl) (yi rfl fun w' hw' => gives_extract rfl rfl rfl) hS5 ?_
          go_frame
          refine wpAnyH_tk 11 (v:=.int .i64 0) rfl (by kernel_rfl) (by kernel_rfl) (by kernel_rfl) (yi rfl fun w' hw' => gives_extract rfl rfl rfl) hS5 ?_
          go_frame
          refine wpAnyH_1 13 rfl (by kernel_rfl) ?_
          have hS6:Below w1.heap.size w1 (u5.setRow bG #[.int .i64 (LP.canon xy).1,.slice G gn gc]):=Below.setRow_ hS5 g_bG _
          refine wp_storeRow rfl rfl rfl BG.out (by kernel_rfl) rfl (by kernel_rfl) ⟨hS6,?_⟩
          replace SG:=hide (SG.out.setRow_ ne_bG #[.int .i64 (LP.canon xy).1,.slice G gn gc])
          have hbk2:Blk (u5.setRow bG #[.int .i64 (LP.canon xy).1,.slice G gn gc]) bG 26 #[.int .i64 (LP.canon xy).1,.slice G gn gc]:=setRow_heap _ _ _ _ _ _ BG.out
          replace BG:=hide hbk2
          clear hbk2
          go_frame
          refine wpAnyH_tk 14 (v:=.int .i64 0) rfl (by kernel_rfl) (by kernel_rfl) (by kernel_rfl) (yi rfl fun w' hw' => gives_move (.inr rfl) rfl) hS6 ?_
          go_frame
          refine wpAnyH_done (by kernel_rfl) (noPanic_mk ?_) _
          go_wp2_with fail
          go_meet
          exact ⟨bG,G,gn,gc,rfl,rfl,BG.out,SG.out,hS6⟩
      case rest =>
        obtain ⟨bG,G,gn,gc,rfl,rfl,hbk,hsl,hb⟩:=hcut
        have l6:=K6.out.lt
        have l7:=K7.out.lt
        replace SR:=hide (SR.out.below hb)
        replace K6:=hide (K6.out.below hb l6)
        replace K7:=hide (K7.out.below hb l7)
        replace HW:=hide (HW.out.trans (hb.mono HW.out.size))
        have l62:=K6.out.lt
        have l72:=K7.out.lt
        have BG:=hide hbk
        have SG:=hide hsl
        clear hb hbk hsl BP SP ST Q2 Q3 Q4 HL2 HL3 HMK l6 l7 LP0 HJQ HKM h3
        have c0:=K7.out.cell 0
        have c1:=K7.out.cell 1
        have d0:=BG.out.cell 0
        have d1:=BG.out.cell 1
        simp at c0 c1 d0 d1
        go_wp2_with fail
        refine (HDK.out _ R rn rc G gn gc SR.out SG.out).mono ?_
        rintro e w3 ⟨R',rn',rc',rfl,hs,hnw,hb⟩
        dsimp only at hs ⊢
        have HN2:Hid (0 < rn' → ∀ ad,R' = some ad → b6 < ad.block ∧ b7 < ad.block):=hide (fun h ad e => by have:=hnw h ad e;omega)
        replace K6:=hide (K6.out.below hb l62)
        replace K7:=hide (K7.out.below hb l72)
        replace HW:=hide (HW.out.trans (hb.mono HW.out.size))
        have f6:0 < rn' → ∀ ad,R' = some ad → ad.block ≠ b7:=fun h ad e => by have:=HN2.out h ad e;omega
        have SR2:=hide ((hs.setCell f6 0 (.int .i64 (LP.canon (S (k + 1))).1)).setCell f6 1 (.slice R' rn' rc'))
        have K62:=hide ((K6.out.far (p:=⟨b7,0,none⟩) h67 (.int .i64 (LP.canon (S (k + 1))).1)).far (p:=⟨b7,1,none⟩) h67 (.slice R' rn' rc'))
        have K72:Hid (Blk ((w3.setCell ⟨b7,0,none⟩ (.int .i64 (LP.canon (S (k + 1))).1)).setCell ⟨b7,1,none⟩ (.slice R' rn' rc')) b7 26 #[.int .i64 (LP.canon (S (k + 1))).1,.slice R' rn' rc']):=hide ((K7.out.set_ 0 (.int .i64 (LP.canon (S (k + 1))).1)).set_ 1 (.slice R' rn' rc'))
        have HW2:=hide ((HW.out.setCell (p:=⟨b7,0,none⟩) HWB.out.2 (.int .i64 (LP.canon (S (k + 1))).1)).setCell (p:=⟨b7,1,none⟩) HWB.out.2 (.slice R' rn' rc'))
        have e0:=K7.out.cell 0
        have e1:=K7.out.cell 1
        have g0:=K7.out.frozen 0
        have g1:=K7.out.frozen 1
        simp at e0 e1
        have l73:=K7.out.lt
        clear hs hnw hb c0 c1 d0 d1 BG SG SR HDK l62 l72 f6 K6 K7 HW HN
        go_wp2_with fail
        go_roundw
        case rel => exact ⟨k + 1,R',rn',rc',by go_num,by omega,K62,K72,SR2,HN2,HW2⟩
        case measure => simp [intOf];omega
    · have hkn:k = n:=by omega
      subst hkn
      have c0:=K7.out.cell 0
      have c1:=K7.out.cell 1
      have c2:=K6.out.cell 0
      have c3:=K6.out.cell 1
      have f2:=K6.out.frozen 0
      have f3:=K6.out.frozen 1
      simp at c0 c1 c2 c3
      have l6:=K6.out.lt
      have hf:0 < rn → ∀ ad,R = some ad → ad.block ≠ b6:=fun h ad e => by have:=HN.out h ad e;omega
      have HF:=hide hf
      clear hf hk hlt
      go_wp2_with fail
      refine bodyPost_ret (results_poly rfl _ rfl ((K6.out.set_ 0 (.int .i64 (LP.canon (S k)).1)).set_ 1 (.slice R rn rc))) rfl ?_
      refine ⟨R,rn,rc,rfl,(SR.out.setCell HF.out 0 _).setCell HF.out 1 _,fun h ad e => by have:=HN.out h ad e;have:=HWB.out;omega,?_⟩
      exact (HW.out.setCell (p:=⟨b6,0,none⟩) HWB.out.1 _).setCell (p:=⟨b6,1,none⟩) HWB.out.1 _
end Go.Proofs.YtndgffiihbdppaaGreatDoor
namespace Go.Proofs.YtndgffiihbdppaaGreatDoor
set_option linter.unusedVariables false
set_option linter.unusedSimpArgs false
open Go.RowKit

structure BldO {α:Type} (L:Nat → Prop) (Q:RdI α) (e:TypeId) (sz base:Nat) (w:World) (A:Option Addr) (n c:Nat) (vs:List Value) (ys:List α):Prop where
  own:OwnG e sz w base A n c vs
  len:ys.length = n
  row:∀ j (hj:j < ys.length),Q (fun b => L b ∧ b < w.heap.size) w ((vs.drop (j * sz)).take sz) ys[j]
section
variable {α:Type} {L L':Nat → Prop} {Q:RdI α} {e:TypeId} {sz base n c:Nat} {w w':World} {A:Option Addr} {vs:List Value} {ys:List α}
theorem BldO.start (L:Nat → Prop) (Q:RdI α) (e:TypeId) (sz base:Nat) (w:World):BldO L Q e sz base w none 0 0 [] []:=⟨OwnG.nil_ _ _ _ _,rfl,fun j hj => by simp at hj⟩
theorem BldO.to (hQ:RdOk Q) (h:BldO L Q e sz base w A n c vs ys) (hb:Below w.heap.size w w'):BldO L Q e sz base w' A n c vs ys:=
  ⟨h.own.below hb,h.len,fun j hj => hQ.mono (fun b _ hb2 => ⟨hb2.1,Nat.lt_of_lt_of_le hb2.2 hb.size⟩) (hQ.keep ((SameK.below hb).mono fun b hb2 => hb2.2) hb.size (h.row j hj))⟩
theorem BldO.same {K:Nat → Prop} (hQ:RdOk Q) (h:BldO L Q e sz base w A n c vs ys) (hk:SameK K w w') (hs:w.heap.size ≤ w'.heap.size) (hK:∀ b,b < w.heap.size → L b → K b) (ho:∀ k,(Value.slice A n c).ownBlock = some k → K k):BldO L Q e sz base w' A n c vs ys:=
  ⟨h.own.keep hk ho,h.len,fun j hj => hQ.mono (fun b _ hb2 => ⟨hb2.1,Nat.lt_of_lt_of_le hb2.2 hs⟩) (hQ.keep (hk.mono fun b hb2 => hK b hb2.2 hb2.1) hs (h.row j hj))⟩
theorem BldO.relax (hQ:RdOk Q) (h:BldO L Q e sz base w A n c vs ys) (hl:∀ b,b < w.heap.size → L b → L' b):BldO L' Q e sz base w A n c vs ys:=
  ⟨h.own,h.len,fun j hj => hQ.mono (fun b _ hb2 => ⟨hl b hb2.2 hb2.1,hb2.2⟩) (h.row j hj)⟩
theorem BldO.add (hQ:RdOk Q) {A9:Option Addr} {c9:Nat} {w9:World} {us:List Value} {y:α} (h:BldO L Q e sz base w A n c vs ys) (hl:us.length = sz)
    (hL:∀ b,L b → (Value.slice A n c).ownBlock ≠ some b) (hy:Q (fun b => L b ∧ b < w.heap.size) w us y) (happ:AppG e sz w base A (n + 1) c (vs ++ us) A9 c9 w9) :
    BldO L Q e sz base w9 A9 (n + 1) c9 (vs ++ us) (ys ++ [y]):=by
  have hown:(Value.slice A (n + 1) c).ownBlock = (Value.slice A n c).ownBlock:=ownBlock_len A (n + 1) n c c
  have hsame:SameK (fun b => L b ∧ b < w.heap.size) w w9:=by
    have:=SameK.grown happ.grown
    rw [hown] at this
    exact this.mono fun b hb => ⟨hb.2,hL b hb.1⟩
  have hup:∀ b,b < w9.heap.size → (L b ∧ b < w.heap.size) → L b ∧ b < w9.heap.size:=fun b hb h2 => ⟨h2.1,hb⟩
  have hvl:=h.own.len
  refine ⟨happ.own,by simp [h.len],fun j hj => ?_⟩
  have hj2:j < n + 1:=by simp [h.len] at hj;exact hj
  by_cases hjn:j < n
  · have hj3:j < ys.length:=by rw [h.len];exact hjn
    have hm:(j + 1) * sz ≤ n * sz:=Nat.mul_le_mul_right _ hjn
    rw [Nat.add_mul,Nat.one_mul] at hm
    have e1:((vs ++ us).drop (j * sz)).take sz = (vs.drop (j * sz)).take sz:=by
      rw [List.drop_append_of_le_length (by omega),List.take_append_of_le_length (by rw [List.length_drop];omega)]
    have e2:(ys ++ [y])[j] = ys[j]:=List.getElem_append_left hj3
    rw [e1,e2]
    exact hQ.mono hup (hQ.keep hsame happ.grown.size (h.row j hj3))
  · have hjn2:j = n:=by omega
    subst hjn2
    have e1:((vs ++ us).drop (j * sz)).take sz = us:=by
      rw [List.drop_append,show vs.drop (j * sz) = [] from List.drop_eq_nil_of_le (by omega),hvl,Nat.sub_self,List.drop_zero,List.nil_append,List.take_of_length_le (by omega)]
    have e2:(ys ++ [y])[j] = y:=by rw [List.getElem_append_right (by rw [h.len];exact Nat.le_refl _)];simp
    rw [e1,e2]
    exact hQ.mono hup (hQ.keep hsame happ.grown.size hy)
theorem BldO.rdK (hQ:RdOk Q) (hs0:0 < sz) {K:Nat → Prop} (hK:∀ b,b < w.heap.size → L b → K b) (hO:∀ k,(Value.slice A n c).ownBlock = some k → K k) (h:BldO L Q e sz base w A n c vs ys):RdS Q sz K w A n c ys:=by
  have hvl:=h.own.len
  refine ⟨h.len,by have:=h.own.small;omega,h.own.nilcap.1,h.own.nilcap.2,fun hn => ?_⟩
  obtain ⟨g,rfl,hgb,hl⟩:=h.own.form hn
  refine ⟨_,rfl,hl,hO g rfl,fun j hj => ⟨(vs.drop (j * sz)).take sz,?_,?_,?_,hQ.mono (fun b hb h2 => hK b hb h2.1) (h.row j hj)⟩⟩
  · have hj2:=h.len
    have hm:(j + 1) * sz ≤ n * sz:=Nat.mul_le_mul_right _ (by omega)
    rw [Nat.add_mul,Nat.one_mul] at hm
    rw [List.length_take,List.length_drop];omega
  · have hj2:=h.len
    have hm:(j + 1) * sz ≤ n * sz:=Nat.mul_le_mul_right _ (by omega)
    rw [Nat.add_mul,Nat.one_mul] at hm
    rw [show (⟨g,0,none⟩:Addr).add (j * sz) = ⟨g,j * sz,none⟩ by unfold Addr.add;split <;> simp_all,h.own.cellAt (by omega)]
    rw [List.getElem?_take,if_pos hs0,List.getElem?_drop,Nat.add_zero]
  · intro i hi
    have hj2:=h.len
    have hm:(j + 1) * sz ≤ n * sz:=Nat.mul_le_mul_right _ (by omega)
    rw [Nat.add_mul,Nat.one_mul] at hm
    rw [show (⟨g,0,none⟩:Addr).add (j * sz) = ⟨g,j * sz,none⟩ by unfold Addr.add;split <;> simp_all]
    show w.cell? ⟨g,j * sz + i,none⟩ = _
    rw [h.own.cellAt (by omega),List.getElem?_take,if_pos hi,List.getElem?_drop]
theorem BldO.rd (hQ:RdOk Q) (hs0:0 < sz) (h:BldO L Q e sz base w A n c vs ys):Rd Q sz w A n c ys:=h.rdK hQ hs0 (fun b hb _ => hb) (fun k hk => (h.own.lt k hk).2)
end

def Fr (O:List (Option Nat)) (b:Nat):Prop:=∀ o ∈ O,o ≠ some b
structure Dis (s:Nat) (O:List (Option Nat)):Prop where
  lt:∀ o ∈ O,∀ k,o = some k → k < s
  pw:O.Pairwise fun a b => ∀ k,a = some k → b ≠ some k
theorem Dis.up {s s':Nat} {O:List (Option Nat)} (h:Dis s O) (hs:s ≤ s'):Dis s' O:=⟨fun o ho k e => Nat.lt_of_lt_of_le (h.lt o ho k e) hs,h.pw⟩
theorem Fr.mv {s:Nat} {O:List (Option Nat)} {i:Nat} {o o':Option Nat} {b:Nat} (hn:o' = o ∨ o' = some s) (hi:O[i]? = some o) (hb:b < s) (h:Fr O b):Fr (O.set i o') b:=fun x hx => by
  rcases List.mem_or_eq_of_mem_set hx with h1 | h1
  · exact h x h1
  · subst h1
    rcases hn with h2 | h2
    · subst h2;exact h x (List.mem_of_getElem? hi)
    · subst h2;intro e;injection e with e;omega
theorem Dis.mv {s s':Nat} {O:List (Option Nat)} {i:Nat} {o o':Option Nat} (hn:o' = o ∨ o' = some s) (hi:O[i]? = some o) (hs:s ≤ s') (h9:∀ k,o' = some k → k < s') (h:Dis s O):Dis s' (O.set i o'):=by
  refine ⟨fun x hx k e => ?_,?_⟩
  · rcases List.mem_or_eq_of_mem_set hx with h1 | h1
    · exact Nat.lt_of_lt_of_le (h.lt x h1 k e) hs
    · subst h1
      exact h9 k e
  · rcases hn with h2 | h2
    · subst h2
      obtain ⟨hlt,he⟩:=List.getElem?_eq_some_iff.1 hi
      rw [← he,List.set_getElem_self]
      exact h.pw
    · subst h2
      rw [List.pairwise_iff_getElem]
      intro a b ha hb hab k hk
      simp only [List.length_set] at ha hb
      have hp:=List.pairwise_iff_getElem.1 h.pw a b ha hb hab k
      rw [List.getElem_set] at hk ⊢
      by_cases e1:i = a
      · rw [if_pos e1] at hk
        injection hk with hk
        subst hk
        by_cases e2:i = b
        · omega
        · rw [if_neg e2]
          intro e
          exact absurd (h.lt _ (List.getElem_mem hb) _ e) (Nat.lt_irrefl _)
      · rw [if_neg e1] at hk
        by_cases e2:i = b
        · rw [if_pos e2]
          intro e;injection e with e
          have:=h.lt _ (List.getElem_mem ha) _ hk
          omega
        · rw [if_neg e2]
          exact hp hk
def ob (A:Option Addr):Option Nat:=A.map (·.block)
theorem ob_own (A:Option Addr) (n c:Nat):(Value.slice A n c).ownBlock = ob A:=by cases A <;> rfl
structure Step (O O':List (Option Nat)) (w w':World) (o:Option Nat):Prop where
  grown:w.grownBy w' o
  mem:o ∈ O
  fr:∀ b,b < w.heap.size → Fr O b → Fr O' b
  dis:Dis w'.heap.size O'
section
variable {O O':List (Option Nat)} {w w':World} {o:Option Nat}
theorem Step.same (h:Step O O' w w' o):SameK (fun b => Fr O b ∧ b < w.heap.size) w w':=(SameK.grown h.grown).mono fun b hb => ⟨hb.2,hb.1 o h.mem⟩
theorem BldO.step {α:Type} {Q:RdI α} {e:TypeId} {sz base n c:Nat} {A:Option Addr} {vs:List Value} {ys:List α} (hQ:RdOk Q) (h:BldO (Fr O) Q e sz base w A n c vs ys) (hs:Step O O' w w' o) (hne:∀ k,ob A = some k → o ≠ some k):BldO (Fr O') Q e sz base w' A n c vs ys:=by
  refine BldO.relax (L:=fun b => Fr O b ∧ b < w.heap.size) hQ ?_ (fun b _ hb => hs.fr b hb.2 hb.1)
  refine BldO.same (K:=fun b => b < w.heap.size ∧ o ≠ some b) hQ (h.relax hQ fun b hl hb => ⟨hb,hl⟩) (SameK.grown hs.grown) hs.grown.size (fun b _ hb => ⟨hb.2,hb.1 o hs.mem⟩) fun k hk => ⟨(h.own.lt k hk).2,hne k (by rw [← ob_own A n c];exact hk)⟩
theorem BldO.addS {α:Type} {Q:RdI α} {e:TypeId} {sz base n c:Nat} {A A9:Option Addr} {c9:Nat} {vs us:List Value} {ys:List α} {y:α} (hQ:RdOk Q) (h:BldO (Fr O) Q e sz base w A n c vs ys) (hs:Step O O' w w' o) (ho:o = ob A) (hl:us.length = sz)
    (hy:Q (fun b => Fr O b ∧ b < w.heap.size) w us y) (happ:AppG e sz w base A (n + 1) c (vs ++ us) A9 c9 w'):BldO (Fr O') Q e sz base w' A9 (n + 1) c9 (vs ++ us) (ys ++ [y]):=
  ((h.relax (L':=fun b => Fr O b ∧ b < w.heap.size) hQ fun b hl hb => ⟨hb,hl⟩).add hQ hl (fun b hb => by rw [ob_own,← ho];exact hb.1 o hs.mem) (hQ.mono (fun b hl hb => ⟨hb,hl⟩) hy) happ).relax hQ fun b _ hb => hs.fr b hb.2 hb.1
theorem RdS.step {α:Type} {Q:RdI α} {sz n c:Nat} {A:Option Addr} {ys:List α} (hQ:RdOk Q) (h:RdS Q sz (fun b => Fr O b ∧ b < w.heap.size) w A n c ys) (hs:Step O O' w w' o):RdS Q sz (fun b => Fr O' b ∧ b < w'.heap.size) w' A n c ys:=
  (h.keep hQ hs.same hs.grown.size).mono hQ fun b hb h2 => ⟨hs.fr b h2.2 h2.1,hb⟩
theorem SLK.step {n c:Nat} {A:Option Addr} {xs:List Int} (h:SLK (fun b => Fr O b ∧ b < w.heap.size) w A n c xs) (hs:Step O O' w w' o):SLK (fun b => Fr O' b ∧ b < w'.heap.size) w' A n c xs:=
  (h.keep hs.same hs.grown.size).mono fun b hb h2 => ⟨hs.fr b h2.2 h2.1,hb⟩
theorem Step.blk {g:Nat} {t:TypeId} {cs:Array Value} (hs:Step O O' w w' o) (h:Blk w g t cs) (hg:o ≠ some g):Blk w' g t cs:=(hs.grown.block g h.lt (fun e => hg e.symm)).trans h
theorem Step.app {e:TypeId} {sz base i n c:Nat} {A A':Option Addr} {c':Nat} {vs:List Value} (hd:Dis w.heap.size O) (hi:O[i]? = some (ob A)) (happ:AppG e sz w base A n c vs A' c' w'):Step O (O.set i (ob A')) w w' (ob A):=by
  have hg:=happ.grown
  have hl:=happ.lies
  rw [ob_own] at hg hl
  rw [ob_own] at hl
  refine ⟨hg,List.mem_of_getElem? hi,fun b hb h => h.mv hl hi hb,hd.mv hl hi hg.size fun k hk => (happ.own.lt k (by rw [ob_own];exact hk)).2⟩
theorem Dis.ne {s i j:Nat} {a b:Option Nat} (h:Dis s O) (hi:O[i]? = some a) (hj:O[j]? = some b) (hij:i ≠ j):∀ k,b = some k → a ≠ some k:=fun k hk => by
  obtain ⟨h1,rfl⟩:=List.getElem?_eq_some_iff.1 hi
  obtain ⟨h2,rfl⟩:=List.getElem?_eq_some_iff.1 hj
  have hp:=List.pairwise_iff_getElem.1 h.pw
  rcases Nat.lt_or_gt_of_ne hij with h3 | h3
  · exact fun e => hp i j h1 h2 h3 k e hk
  · exact hp j i h2 h1 h3 k hk
theorem Fr.drop {i:Nat} {b:Nat} (h:Fr O b):Fr (O.set i none) b:=fun x hx => by
  rcases List.mem_or_eq_of_mem_set hx with h1 | h1
  · exact h x h1
  · subst h1;simp
theorem Dis.drop {s i:Nat} (h:Dis s O):Dis s (O.set i none):=by
  refine ⟨fun x hx k e => ?_,?_⟩
  · rcases List.mem_or_eq_of_mem_set hx with h1 | h1
    · exact h.lt x h1 k e
    · subst h1;cases e
  · rw [List.pairwise_iff_getElem]
    intro a b ha hb hab k hk
    simp only [List.length_set] at ha hb
    have hp:=List.pairwise_iff_getElem.1 h.pw a b ha hb hab k
    rw [List.getElem_set] at hk ⊢
    by_cases e1:i = a
    · rw [if_pos e1] at hk;cases hk
    · rw [if_neg e1] at hk
      split
      · simp
      · exact hp hk
theorem Fr.dropped {i:Nat} {s b:Nat} {o:Option Nat} (hd:Dis s O) (hi:O[i]? = some o) (hb:o = some b):Fr (O.set i none) b:=fun x hx => by
  obtain ⟨j,hj,rfl⟩:=List.getElem_of_mem hx
  simp only [List.length_set] at hj
  rw [List.getElem_set]
  split
  · simp
  · next h => exact hd.ne (i:=j) (j:=i) (by rw [List.getElem?_eq_getElem hj]) hi (fun e => h e.symm) b hb
theorem Fr.above {s b:Nat} (h:Dis s O) (hb:s ≤ b):Fr O b:=fun x hx e => by have:=h.lt x hx b e;omega
theorem Step.put {g:Nat} (hd:Dis w.heap.size O) (hg:some g ∈ O) (hgr:w.grownBy w' (some g)):Step O O w w' (some g):=⟨hgr,hg,fun _ _ h => h,hd.up hgr.size⟩
end
end Go.Proofs.YtndgffiihbdppaaGreatDoor
namespace Go.Proofs.YtndgffiihbdppaaGreatDoor
set_option linter.unusedVariables false
set_option linter.unusedSimpArgs false
open Go.RowKit

noncomputable def rowA (n:Nat) (X:Mtx LP) (i:Nat):List Po:=(List.range n).map fun j => cP (X i j)
noncomputable def tabA (n:Nat) (X:Mtx LP):List (List Po):=(List.range n).map fun i => rowA n X i
theorem rowA_length (n:Nat) (X:Mtx LP) (i:Nat):(rowA n X i).length = n:=by simp [rowA]
theorem rowA_getD {n:Nat} {X:Mtx LP} {i j:Nat} (hj:j < n):(rowA n X i).getD j (0,[]) = cP (X i j):=by simp [rowA,List.getD,hj]
theorem rowA_succ (k:Nat) (X:Mtx LP) (i:Nat):rowA (k + 1) X i = rowA k X i ++ [cP (X i k)]:=by simp [rowA,List.range_succ]
theorem tabA_length (n:Nat) (X:Mtx LP):(tabA n X).length = n:=by simp [tabA]
theorem tabA_getD {n:Nat} {X:Mtx LP} {i:Nat} (hi:i < n):(tabA n X).getD i [] = rowA n X i:=by simp [tabA,List.getD,hi]
structure GroM (w:World) (base G n i:Nat) (R:Option Addr) (k c:Nat) (vs:List Value) (X:Mtx LP):Prop where
  blk:∃ cs,Blk w G 67 cs
  hb:base ≤ G
  dis:Dis w.heap.size [some G,ob R]
  done:∀ j,j < i → ∃ B d,w.cell? ⟨G,j,none⟩ = some (.slice B n d) ∧ RdS QP 2 (fun b => Fr [some G,ob R] b ∧ b < w.heap.size) w B n d (rowA n X j)
  cell:i < n → w.cell? ⟨G,i,none⟩ = some (.slice R k c)
  rest:∀ j,i < j → j < n → w.cell? ⟨G,j,none⟩ = some (.slice none 0 0)
  cur:BldO (Fr [some G,ob R]) QP 26 2 base w R k c vs (rowA k X i)
section
variable {w w':World} {base G n i k c:Nat} {R:Option Addr} {vs:List Value} {X:Mtx LP}
theorem GroM.lt (h:GroM w base G n i R k c vs X):G < w.heap.size:=by obtain ⟨cs,hc⟩:=h.blk;exact hc.lt
theorem GroM.start (h:w.ownsRow base 67 1 (.slice (some ⟨G,0,none⟩) n n) n (madeCells #[.slice none 0 0] (n * 1)).toList) (hn:n ≤ 1000) (X:Mtx LP):GroM w base G n 0 none 0 0 [] X:=by
  have ho:OwnG 67 1 w base (some ⟨G,0,none⟩) n n (madeCells #[.slice none 0 0] (n * 1)).toList:=⟨h,by omega⟩
  obtain ⟨cs,hb,hcs⟩:=ho.cells G rfl
  have hc:∀ j,j < n → w.cell? ⟨G,j,none⟩ = some (.slice none 0 0):=fun j hj => by
    rw [ho.cellAt (by omega),Array.getElem?_toList]
    unfold madeCells
    simp [hj,show j % 1 = 0 by omega]
  have hlt:G < w.heap.size:=Blk.lt (w:=w) (t:=67) (cs:=cs) hcs
  refine ⟨⟨cs,hcs⟩,hb,⟨fun o ho k e => ?_,?_⟩,fun j hj => absurd hj (by omega),fun h0 => hc 0 h0,fun j _ hj => hc j hj,BldO.start _ _ _ _ _ _⟩
  · simp [ob] at ho
    rcases ho with rfl | rfl
    · injection e with e;omega
    · cases e
  · simp [ob]
theorem GroM.below (h:GroM w base G n i R k c vs X) (hb:Below w.heap.size w w'):GroM w' base G n i R k c vs X:=by
  have hG:∀ j,w'.cell? ⟨G,j,none⟩ = w.cell? ⟨G,j,none⟩:=fun j => hb.cell (p:=⟨G,j,none⟩) h.lt
  refine ⟨?_,h.hb,h.dis.up hb.size,fun j hj => ?_,fun hi => (hG i).trans (h.cell hi),fun j h1 h2 => (hG j).trans (h.rest j h1 h2),h.cur.to QP_ok hb⟩
  · obtain ⟨cs,hc⟩:=h.blk
    exact ⟨cs,hc.below hb hc.lt⟩
  · obtain ⟨B,d,h1,h2⟩:=h.done j hj
    exact ⟨B,d,(hG j).trans h1,(h2.keep QP_ok ((SameK.below hb).mono fun b hb2 => hb2.2) hb.size).mono QP_ok fun b _ h3 => ⟨h3.1,Nat.lt_of_lt_of_le h3.2 hb.size⟩⟩
theorem GroM.put (h:GroM w base G n i R k c vs X) {y:LP} (hy:X i k = y) (hi:i < n) {P:Option Addr} {pn pc:Nat} (hp:SLK (fun b => Fr [some G,ob R] b ∧ b < w.heap.size) w P pn pc (LP.canon y).2) (hw:(Lit.int .i64 (LP.canon y).1).wf = true)
    {R':Option Addr} {c':Nat} {w9:World} (happ:AppG 26 2 w base R (k + 1) c (vs ++ [.int .i64 (LP.canon y).1,.slice P pn pc]) R' c' w9) :
    GroM (w9.setCell ⟨G,i,none⟩ (.slice R' (k + 1) c')) base G n i R' (k + 1) c' (vs ++ [.int .i64 (LP.canon y).1,.slice P pn pc]) X:=by
  subst hy
  have s1:Step [some G,ob R] [some G,ob R'] w w9 (ob R):=Step.app (O:=[some G,ob R]) (i:=1) h.dis rfl happ
  have hgr:w9.grownBy (w9.setCell ⟨G,i,none⟩ (.slice R' (k + 1) c')) (some G):=chg_set
  have s2:Step [some G,ob R'] [some G,ob R'] w9 (w9.setCell ⟨G,i,none⟩ (.slice R' (k + 1) c')) (some G):=Step.put s1.dis (by simp) hgr
  have hne:ob R ≠ some G:=h.dis.ne (O:=[some G,ob R]) (i:=1) (j:=0) rfl rfl (by omega) G rfl
  have hne2:∀ k,ob R' = some k → some G ≠ some k:=s1.dis.ne (O:=[some G,ob R']) (i:=0) (j:=1) rfl rfl (by omega)
  obtain ⟨cs,hcs⟩:=h.blk
  have b9:Blk w9 G 67 cs:=s1.blk hcs hne
  have hG:∀ j,w9.cell? ⟨G,j,none⟩ = w.cell? ⟨G,j,none⟩:=fun j => by rw [b9.cell,hcs.cell]
  have hother:∀ j,j ≠ i → (w9.setCell ⟨G,i,none⟩ (.slice R' (k + 1) c')).cell? ⟨G,j,none⟩ = w.cell? ⟨G,j,none⟩:=fun j hj => by
    rw [World.cell?_setCell_other w9 _ _ _ (by intro h2;simp only [Addr.mk.injEq] at h2;omega)]
    exact hG j
  refine ⟨⟨_,b9.set_ i _⟩,h.hb,s2.dis,fun j hj => ?_,fun _ => ?_,fun j h1 h2 => ?_,?_⟩
  · obtain ⟨B,d,h1,h2⟩:=h.done j hj
    exact ⟨B,d,(hother j (by omega)).trans h1,(h2.step QP_ok s1).step QP_ok s2⟩
  · exact World.cell?_setCell_same w9 _ _ ((hG i).trans (h.cell hi))
  · rw [hother j (by omega)]
    exact h.rest j h1 h2
  · rw [rowA_succ]
    have h3:BldO (Fr [some G,ob R']) QP 26 2 base w9 R' (k + 1) c' (vs ++ [.int .i64 (LP.canon (X i k)).1,.slice P pn pc]) (rowA k X i ++ [cP (X i k)]):=h.cur.addS QP_ok s1 rfl rfl ⟨P,pn,pc,rfl,hp,hw⟩ happ
    exact h3.step QP_ok s2 hne2
theorem GroM.next (h:GroM w base G n i R n c vs X) (hi:i < n):GroM w base G n (i + 1) none 0 0 [] X:=by
  have hd:=h.dis
  refine ⟨h.blk,h.hb,Dis.drop (O:=[some G,ob R]) (i:=1) hd,fun j hj => ?_,fun h1 => h.rest (i + 1) (by omega) h1,fun j h1 h2 => h.rest j (by omega) h2,BldO.start _ _ _ _ _ _⟩
  by_cases e:j = i
  · subst e
    refine ⟨R,c,h.cell hi,h.cur.rdK QP_ok (by omega) (fun b hb hf => ⟨Fr.drop (O:=[some G,ob R]) (i:=1) hf,hb⟩) fun g hg => ⟨Fr.dropped (O:=[some G,ob R]) (i:=1) hd rfl (by rw [← ob_own R n c];exact hg),(h.cur.own.lt g hg).2⟩⟩
  · obtain ⟨B,d,h1,h2⟩:=h.done j (by omega)
    exact ⟨B,d,h1,h2.mono QP_ok fun b _ hf => ⟨Fr.drop (O:=[some G,ob R]) (i:=1) hf.1,hf.2⟩⟩
theorem GroM.spp (h:GroM w base G n n R k c vs X) (hn:n ≤ 1000):SPP w (some ⟨G,0,none⟩) n n (tabA n X):=by
  refine ⟨tabA_length _ _,by omega,fun e => (by cases e),Nat.le_refl _,fun h0 => ⟨_,rfl,h.lt,fun j hj => ?_⟩⟩
  obtain ⟨B,d,h1,h2⟩:=h.done j hj
  have e2:(⟨G,0,none⟩:Addr).add j = ⟨G,j,none⟩:=by unfold Addr.add;split <;> simp_all
  rw [tabA_getD hj,e2]
  exact ⟨B,n,d,h1,Rd.spo (h2.mono QP_ok fun b _ hf => hf.2)⟩
theorem GroM.own (h:GroM w base G n i R k c vs X):OwnG 26 2 w base R k c vs:=h.cur.own
theorem GroM.far (h:GroM w base G n i R k c vs X) {P:Option Addr} {pn pc:Nat} {xs:List Int} (hs:SL w' P pn pc xs) (hn:NewA w P pn):SLK (fun b => Fr [some G,ob R] b ∧ b < w'.heap.size) w' P pn pc xs:=
  ⟨hs,fun h0 ad e => ⟨Fr.above h.dis (hn h0 ad e),hs.inside h0 ad e⟩⟩
theorem GroM.ne (h:GroM w base G n i R k c vs X):ob R ≠ some G:=h.dis.ne (O:=[some G,ob R]) (i:=1) (j:=0) rfl rfl (by omega) G rfl
theorem GroM.old (h:GroM w base G n i R k c vs X) {b:Nat} (hb:b < base):ob R ≠ some b:=fun e => by
  have:=(h.own.lt b (by rw [ob_own];exact e)).1
  omega
end
theorem gives_idxG {P:Program} {o:Oper} {a:Act} {w:World} {t e:TypeId} {x y:Operand} {g k n c:Nat} {q:IntKind} (ho:o.op = .indexAddr t x y) (ht:P.underlying t = some (.slice e)) (he:∀ w,(sizeOf e).run P w = .ok 1 w) (hx:a.eval x = .slice (some ⟨g,0,none⟩) n c) (hy:a.eval y = .int q k) (hk:k < n) :
    Gives P o a w (.pointer (some ⟨g,k,none⟩)):=by
  have h:=gives_indexA (w:=w) ho ht he hx hy hk
  rwa [Addr.add_mid,Nat.zero_add] at h
theorem wp_append_G {P:Program} {w:World} {o:Oper} {a:Act} {K:Act → World → Prop} {Q:Exit → Act → World → Prop} (s x:Operand) (t:TypeId)
    (ho:o.op = .call { callee:=.builtin .append,args:=#[s,x],argTypes:=#[t,t] })
    (base:Nat) (e:TypeId) (i:TypeInfo) (z:Value) (sz by_:Nat) (ht:P.underlying t = some (.slice e)) (hi:P.info? e = some i) (hz:i.zero = some z) (hsize:i.size = sz) (hby:i.bytes = by_) (hzs:z.cells.size = sz) (hs0:0 < sz) (hbs:by_ ≤ 10000)
    (A:Option Addr) (n c:Nat) (vs:List Value) (hs:a.eval s = .slice A n c) (hown:OwnG e sz w base A n c vs) (ad:Addr) (m d:Nat) (us:List Value) (hm:us.length = m * sz) (hx:a.eval x = .slice (some ad) m d) (hu:∀ j u,us[j]? = some u → w.cell? (ad.add j) = some u) (h1:∀ u,u ∈ us → u.oneCell' = true)
    (hsm:n + m ≤ 1000000) (hbase:base ≤ w.heap.size)
    (h:∀ A' c' w',AppG e sz w base A (n + m) c (vs ++ us) A' c' w' → K (a.put o.dst (.slice A' (n + m) c')) w'):o.wp P a w K Q:=by
  have hb2:(n + m) * by_ ≤ 140737488355328:=by
    have:=Nat.mul_le_mul hsm hbs
    omega
  obtain ⟨v',w',hrun,h2,h3,_,h5⟩:=run_append_own_at (P:=P) w base t o.type e i z sz by_ ht hi hz hsize hby hzs hs0 (.slice A n c) n _ hown.own ad m d us
    hm hu h1 (by simp only [maxLen];omega) hb2 hbase
  have hv:∃ A' c',v' = .slice A' (n + m) c':=by
    rcases h2.2 with ⟨rfl,h0⟩ | ⟨g,cap,cur,rfl,_⟩
    · exact ⟨none,0,by rw [h0]⟩
    · exact ⟨_,_,rfl⟩
  obtain ⟨A',c',rfl⟩:=hv
  unfold Oper.wp execOp
  simp only [ho,resolve,invoke,builtin,Sem.run_bind,Sem.run_pure,Result.andThen_ok,List.map_toArray,List.map_cons,List.map_nil,hs,hx,hrun]
  exact h A' c' w' ⟨⟨h2,hsm⟩,by rw [ownBlock_len A (n + m) n c c];exact h3,by rw [ownBlock_len A (n + m) n c c];exact h5⟩
theorem cells_pair {w:World} {g:Nat} {t:TypeId} {u v:Value} (h:Blk w g t #[u,v]):∀ j x,[u,v][j]? = some x → w.cell? ((⟨g,0,none⟩:Addr).add j) = some x:=by
  intro j x hx
  have e:(⟨g,0,none⟩:Addr).add j = ⟨g,j,none⟩:=by unfold Addr.add;split <;> simp_all
  rw [e,h.cell j]
  simpa using hx
end Go.Proofs.YtndgffiihbdppaaGreatDoor
