/- Several texts in one. -/
import Derived.Test.YtndgffiihbdppaaGreatDoorPart26
import Derived.Test.YtndgffiihbdppaaGreatDoorPart6
import Derived.Test.YtndgffiihbdppaaGreatDoorPart3
import Derived.Test.YtndgffiihbdppaaGreatDoorPart2
namespace Go.Proofs.YtndgffiihbdppaaGreatDoor
set_option linter.unusedVariables false
set_option linter.unusedSimpArgs false
open Go.RowKit Go.Maps

noncomputable def clG (N:Nat) (d:List Nat):LP:=dlt (Tl.cir N d - 1)
structure Lc (N E V:Nat) (o rem:Cmb) (s:LP):Prop where
  sum:s + sumO (clG N) rem = sumO (clG N) o
  nm:∃ v v',NmO E rem v ∧ LP.N1 s (E + 10) v' ∧ v' + 32 * v ≤ 32 * V
theorem Lc.start {N E V:Nat} {o:Cmb} (h:NmO E o V):Lc N E V o o 0:=⟨CR.zero_add _,V,0,h,LP.N1.zero.mono (Nat.zero_le _) (Nat.le_refl _),by omega⟩
theorem Lc.done {N E V:Nat} {o:Cmb} {s:LP} (h:Lc N E V o [] s):s = sumO (clG N) o:=by rw [← h.sum];exact (CR.add_zero _).symm
theorem Lc.perm {N E V:Nat} {o r r':Cmb} {s:LP} (h:Lc N E V o r s) (hp:r.Perm r'):Lc N E V o r' s:=by
  refine ⟨by rw [← sumO_perm _ hp];exact h.sum,?_⟩
  obtain ⟨v,v',h1,h2,h3⟩:=h.nm
  exact ⟨v,v',h1.perm hp,h2,h3⟩
theorem Lc.step {N E V:Nat} {o r:Cmb} {d:List Nat} {q s:LP} (h:Lc N E V o ((d,q) :: r) s) (hc:Tl.cir N d ≤ 6) (hE:E ≤ 50) (hV:V ≤ 1000000) :
    Lc N E V o r (s + q * clG N d) ∧ LP.Rt q ∧ LP.Rt (clG N d) ∧ LP.Rt (q * clG N d) ∧ LP.Rt s ∧ LP.Rt (s + q * clG N d):=by
  obtain ⟨v,v',h1,h2,h3⟩:=h.nm
  obtain ⟨u,u',h4,h5,h6⟩:=h1.inv
  have a1:=h4.mul (dlt_n1 (Tl.cir N d - 1))
  have e2:2 ^ (Tl.cir N d - 1) ≤ 32:=Nat.le_trans (Nat.pow_le_pow_right (n:=2) (by omega) (show Tl.cir N d - 1 ≤ 5 by omega)) (by decide)
  have a2:=a1.mono (E':=E + 10) (V':=u * 32) (by omega) (Nat.mul_le_mul_left u e2)
  have a3:=h2.add a2
  refine ⟨⟨?_,u',v' + u * 32,h5,a3,by omega⟩,h4.rt (by omega) (by omega),dlt_rt (by omega),a2.rt (by omega) (by omega),h2.rt (by omega) (by omega),a3.rt (by omega) (by omega)⟩
  rw [← h.sum,CR.add_assoc]
  rfl
theorem eTlClosure:∀ args w,(callFunc 88 args).run Tryz.prog w = .ok (.enter 88 args) w:=enters (fn:=Tryz.f88) (by kernel_rfl) (by kernel_rfl) (by kernel_rfl)
theorem gr_row (w:World) (g:Nat) (cs:Array Value):w.grownBy (w.setRow g cs) (some g):=by
  have h:=Below.setRow_ (Below.refl g w) (Nat.le_refl g) cs
  exact ⟨h.os,h.tape,h.output,h.size,fun b _ hne => setRow_other _ _ _ _ (fun e => hne (by rw [e]))⟩
set_option maxRecDepth 100000 in
set_option maxHeartbeats 4000000 in
theorem jclosed_any (F:PolyC) (G:TlC) {N:Nat} (h1:1 ≤ N) (h6:N ≤ 6) {b K E V:Nat} {o:Cmb} (hE:E ≤ 50) (hV:V ≤ 1000000) (hN:NmO E o V) (w:World) (hB:CmB N w b K o) :
    Calls Tryz.prog 70 #[CV N b] w (GivesJ w (sumO (clG N) o)):=by
  have hb0:Below w.heap.size w (((w.alloc (.cells #[.int .i64 N,.map (some b)] 95)).alloc (.cells #[.int .i64 0,.slice none 0 0] 26)).alloc (.cells #[.int .i64 0,.slice none 0 0] 26)):=(((Below.refl _ _).alloc (Nat.le_refl _) _).alloc (by simp) _).alloc (by simp;omega) _
  have hk0:Blk (((w.alloc (.cells #[.int .i64 N,.map (some b)] 95)).alloc (.cells #[.int .i64 0,.slice none 0 0] 26)).alloc (.cells #[.int .i64 0,.slice none 0 0] 26)) w.heap.size 95 #[.int .i64 N,.map (some b)]:=((Blk.new w _ _).alloc _).alloc _
  have hk1:Blk (((w.alloc (.cells #[.int .i64 N,.map (some b)] 95)).alloc (.cells #[.int .i64 0,.slice none 0 0] 26)).alloc (.cells #[.int .i64 0,.slice none 0 0] 26)) (w.heap.size + 1) 26 #[.int .i64 0,.slice none 0 0]:=by
    have:=(Blk.new (w.alloc (.cells #[.int .i64 N,.map (some b)] 95)) 26 #[.int .i64 0,.slice none 0 0]).alloc (.cells #[.int .i64 0,.slice none 0 0] 26)
    rwa [World.size_alloc] at this
  have hk2:Blk (((w.alloc (.cells #[.int .i64 N,.map (some b)] 95)).alloc (.cells #[.int .i64 0,.slice none 0 0] 26)).alloc (.cells #[.int .i64 0,.slice none 0 0] 26)) (w.heap.size + 2) 26 #[.int .i64 0,.slice none 0 0]:=by
    have:=(Blk.new ((w.alloc (.cells #[.int .i64 N,.map (some b)] 95)).alloc (.cells #[.int .i64 0,.slice none 0 0] 26)) 26 #[.int .i64 0,.slice none 0 0])
    rwa [World.size_alloc,World.size_alloc] at this
  have hz0:(((w.alloc (.cells #[.int .i64 N,.map (some b)] 95)).alloc (.cells #[.int .i64 0,.slice none 0 0] 26)).alloc (.cells #[.int .i64 0,.slice none 0 0] 26)).heap.size = w.heap.size + 3:=by simp
  have HB0:=hide hb0
  have HK0:=hide hk0
  have HK1:=hide hk1
  have HK2:=hide hk2
  have HZ0:=hide hz0
  have HNM:=hide hN
  obtain ⟨T,hT,hE0⟩:=hB.mp
  have hkeys:=hB.keys
  have hwf:∀ p ∈ T,∃ kl,keyOf Tryz.prog 113 p.1 = some kl:=fun p hp => by
    obtain ⟨d,hd,e⟩:=hE0.mem p hp
    obtain ⟨r,hr,e2⟩:=List.mem_map.1 hd
    rw [e,← e2]
    exact keyE (plan_small h1 h6 (hkeys r hr)).2
  have HT:=hide (hT.below hb0)
  have HE0:=hide hE0
  have HWF:=hide hwf
  have HKEYS:=hide hkeys
  have hbw:=hB.lt
  have q0:=hk0.cell 1
  simp at q0
  clear hb0 hk0 hk1 hk2 hz0 hB hN hT hE0 hwf hkeys q0
  go_enter Tryz.func70,Tryz.ntmps70
  go_upto_region 2 with fail
  generalize (((w.alloc (.cells #[.int .i64 N,.map (some b)] 95)).alloc (.cells #[.int .i64 0,.slice none 0 0] 26)).alloc (.cells #[.int .i64 0,.slice none 0 0] 26)) = w5 at *
  have q0:=HK0.out.cell 1
  simp at q0
  go_upto_region 3 with ((with_reducible show wpList _ _ _ (Oper.mk _ (.range _ _) _ _ _ _ :: _) _ _);refine wpList_rangeW _ rfl _ _ _ rfl keyK mapT b T rfl HT.out HWF.out ?_;intro w6 cnt0 hrg hg6 hz6)
  have hxz:=HZ0.out
  rw [hxz] at hrg hz6
  simp only [hxz]
  have h6n:=gr_none hg6
  have X0:=hide (HK0.out.below h6n (by omega))
  have X1:=hide (HK1.out.below h6n (by omega))
  have X2:=hide (HK2.out.below h6n (by omega))
  have XW6:=hide (HB0.out.trans (h6n.mono (by omega)))
  have HRG:=hide hrg
  have HZ6:=hide hz6
  clear hrg hg6 hz6 h6n hxz q0 HK0 HK1 HK2 HB0 HZ0 HT HWF
  clear w5
  go_frame
  go_loopw [11] (fun _ wr => ∃ (rem:List (Value × Value)) (orem:Cmb) (s:LP) (cnt:Nat) (lo:Int) (A:Option Addr) (n c:Nat),RangeW Tryz.prog 113 wr b (w.heap.size + 3) T rem cnt ∧ Ents w K rem orem ∧ Lc N E V o orem s ∧ (∀ p ∈ orem,p.1 ∈ Tl.plan N) ∧ JP wr (w.heap.size + 3) lo A n c s ∧ Blk wr w.heap.size 95 #[.int .i64 N,.map (some b)] ∧ Blk wr (w.heap.size + 1) 26 #[.int .i64 0,.slice none 0 0] ∧ Blk wr (w.heap.size + 2) 26 #[.int .i64 lo,.slice A n c] ∧ Below w.heap.size w wr ∧ w.heap.size + 4 ≤ wr.heap.size) (fun _ wr => wr.rangeLeft b (w.heap.size + 3))
  case atStart => exact ⟨T,o,0,cnt0,0,none,0,0,HRG.out,HE0.out,Lc.start HNM.out,HKEYS.out,⟨by rw [LP.canon_zero],by rw [LP.canon_zero];exact SL.nil_ _,fun h => absurd h (by omega)⟩,X0.out,X1.out,X2.out,XW6.out,by have:=HZ6.out;omega⟩
  case round =>
    clear HRG HE0 HKEYS X0 X1 X2 XW6 HZ6
    obtain ⟨rem,orem,s,cnt,lo,A,n,c,hrg,hen,hlc,hkeys,hj,hk0,hk1,hk2,hbw,hsz⟩:=hrel
    have HRG:=hide hrg
    have HEN:=hide hen
    have HLC:=hide hlc
    have HKEYS:=hide hkeys
    have HJ:=hide hj
    have HK0:=hide hk0
    have HK1:=hide hk1
    have HK2:=hide hk2
    have HBW:=hide hbw
    have HSZ:=hide hsz
    have HOR:=hide hrg.left_eq
    clear hrg hen hlc hkeys hj hk0 hk1 hk2 hbw hsz
    go_wp2_with (refine wpList_nextW _ rfl _ rfl keyK b (w.heap.size + 3) T rem cnt rfl HRG.out ?_ ?_)
    · intro hrem
      subst hrem
      have hor:orem = []:=by
        have h:=HEN.out
        cases h
        rfl
      subst hor
      have q0:=HK2.out.cell 0
      have q1:=HK2.out.cell 1
      have q2:=HK1.out.cell 0
      have q3:=HK1.out.cell 1
      have q4:=HK1.out.frozen 0
      have q5:=HK1.out.frozen 1
      simp at q0 q1 q2 q3
      have HDN:=hide HLC.out.done
      clear HRG HOR HLC
      go_wp2_with fail
      refine bodyPost_ret (results_poly rfl _ rfl ((HK1.out.set_ 0 (.int .i64 lo)).set_ 1 (.slice A n c))) rfl ?_
      rw [← HDN.out]
      exact ⟨_,rfl,(((HJ.out.set_ (by omega) _).set_ (by omega) _).mono (by omega)).jq,(HBW.out.setCell (p:=⟨w.heap.size + 1,0,none⟩) (by show w.heap.size ≤ w.heap.size + 1;omega) _).setCell (p:=⟨w.heap.size + 1,1,none⟩) (by show w.heap.size ≤ w.heap.size + 1;omega) _⟩
    · intro kx c2 rem' w7 cnt' hpm hrg7 hlt hg7 hz7 hent
      -- FROM HERE: tools/gen_jclosed.py
      obtain ⟨orem1,hp1,hen1⟩:=HEN.out.perm hpm
      obtain ⟨d,q,orem2,rfl,hkx,hjq,hen2⟩:=hen1.inv
      have hkx:kx = ky d:=hkx
      have hjq:JQ w K c2 q:=hjq
      subst hkx
      obtain ⟨lc,CA,cn,cc,rfl,hjp⟩:=hjq.jp
      have hd:d ∈ Tl.plan N:=HKEYS.out (d,q) (hp1.symm.subset List.mem_cons_self)
      have hlp1:=HLC.out.perm hp1
      have hcir:=(Tl.plan_one h1 h6 hd).2.1
      have hst:=hlp1.step hcir.2 hE hV
      have hdl:=(plan_small h1 h6 hd).1
      have hsz7:=HSZ.out
      have nc:=HRG.out.nocell
      have hk07:=HK0.out.grown hg7 (fun e => by injection e with e;omega)
      have hk17:=HK1.out.grown hg7 (fun e => by injection e with e;omega)
      have hk27:=HK2.out.grown hg7 (fun e => by injection e with e;omega)
      have hb7:=below_gr HBW.out hg7 (by omega) (by omega)
      have hj7:JP w7 (w.heap.size + 3) lo A n c s:=by
        obtain ⟨A',n',c',e,e1,e2⟩:=HJ.out.jq.kept hg7 nc
        have e0:=HJ.out.lo
        have:lo = (LP.canon s).1 ∧ A = A' ∧ n = n' ∧ c = c':=by
          simp only [Value.agg.injEq] at e
          have h1:=congrArg (fun a:Array Value => a[0]?) e
          have h2:=congrArg (fun a:Array Value => a[1]?) e
          simp at h1 h2
          exact ⟨h1,h2.1,h2.2.1,h2.2.2⟩
        obtain ⟨_,rfl,rfl,rfl⟩:=this
        exact ⟨e0,e1,e2⟩
      have EN2:=hide hen2
      have KS2:=hide (fun p hp => HKEYS.out p (hp1.symm.subset (List.mem_cons_of_mem _ hp)):∀ p ∈ orem2,p.1 ∈ Tl.plan N)
      have JQ4:=hide hjq
      have RG7:=hide hrg7
      have HLT:=hide hlt
      have HD:=hide hd
      have HDL:=hide hdl
      have HST:=hide hst
      have HCIR:=hide hcir
      clear hlp1 hen2 hjq hjp hen1 hpm HLC HEN HKEYS hp1 hrg7 HRG hlt nc hst hcir
      have hkz:Blk ((w7.alloc (.cells #[.int .i64 0,.int .i64 0,.int .i64 0,.int .i64 0,.int .i64 0,.int .i64 0,.int .i64 0,.int .i64 0,.int .i64 0,.int .i64 0,.int .i64 0,.int .i64 0] 113)).alloc (.cells #[.int .i64 0,.slice none 0 0] 26)) w7.heap.size 113 #[.int .i64 0,.int .i64 0,.int .i64 0,.int .i64 0,.int .i64 0,.int .i64 0,.int .i64 0,.int .i64 0,.int .i64 0,.int .i64 0,.int .i64 0,.int .i64 0]:=(Blk.new w7 _ _).alloc _
      have hkp:Blk ((w7.alloc (.cells #[.int .i64 0,.int .i64 0,.int .i64 0,.int .i64 0,.int .i64 0,.int .i64 0,.int .i64 0,.int .i64 0,.int .i64 0,.int .i64 0,.int .i64 0,.int .i64 0] 113)).alloc (.cells #[.int .i64 0,.slice none 0 0] 26)) (w7.heap.size + 1) 26 #[.int .i64 0,.slice none 0 0]:=by
        have:=Blk.new (w7.alloc (.cells #[.int .i64 0,.int .i64 0,.int .i64 0,.int .i64 0,.int .i64 0,.int .i64 0,.int .i64 0,.int .i64 0,.int .i64 0,.int .i64 0,.int .i64 0,.int .i64 0] 113)) 26 #[.int .i64 0,.slice none 0 0]
        rwa [World.size_alloc] at this
      have hb8:Below w7.heap.size w7 ((w7.alloc (.cells #[.int .i64 0,.int .i64 0,.int .i64 0,.int .i64 0,.int .i64 0,.int .i64 0,.int .i64 0,.int .i64 0,.int .i64 0,.int .i64 0,.int .i64 0,.int .i64 0] 113)).alloc (.cells #[.int .i64 0,.slice none 0 0] 26)):=((Below.refl _ _).alloc (Nat.le_refl _) _).alloc (by simp) _
      have HKZ:=hide hkz
      have hkp2:Blk (((w7.alloc (.cells #[.int .i64 0,.int .i64 0,.int .i64 0,.int .i64 0,.int .i64 0,.int .i64 0,.int .i64 0,.int .i64 0,.int .i64 0,.int .i64 0,.int .i64 0,.int .i64 0] 113)).alloc (.cells #[.int .i64 0,.slice none 0 0] 26)).setRow w7.heap.size (kyA d)) (w7.heap.size + 1) 26 #[.int .i64 0,.slice none 0 0]:=(setRow_other _ _ _ _ (by omega)).trans hkp
      have hkz2:Blk (((w7.alloc (.cells #[.int .i64 0,.int .i64 0,.int .i64 0,.int .i64 0,.int .i64 0,.int .i64 0,.int .i64 0,.int .i64 0,.int .i64 0,.int .i64 0,.int .i64 0,.int .i64 0] 113)).alloc (.cells #[.int .i64 0,.slice none 0 0] 26)).setRow w7.heap.size (kyA d)) w7.heap.size 113 (kyA d):=setRow_heap _ _ _ _ _ _ hkz
      have hb82:=Below.setRow_ hb8 (Nat.le_refl _) (kyA d)
      have q0:=hkp2.cell 0
      have q1:=hkp2.cell 1
      have q2:=hkp2.frozen 0
      have q3:=hkp2.frozen 1
      simp at q0 q1
      have K4:=hide ((hkz2.far (p:=⟨w7.heap.size + 1,0,none⟩) (by show w7.heap.size ≠ w7.heap.size + 1;omega) (.int .i64 lc)).far (p:=⟨w7.heap.size + 1,1,none⟩) (by show w7.heap.size ≠ w7.heap.size + 1;omega) (.slice CA cn cc))
      have K5:=hide ((hkp2.set_ 0 (.int .i64 lc)).set_ 1 (.slice CA cn cc))
      have B8:=hide ((hb82.setCell (p:=⟨w7.heap.size + 1,0,none⟩) (by show w7.heap.size ≤ w7.heap.size + 1;omega) (.int .i64 lc)).setCell (p:=⟨w7.heap.size + 1,1,none⟩) (by show w7.heap.size ≤ w7.heap.size + 1;omega) (.slice CA cn cc))
      have K07:=hide hk07
      have K17:=hide hk17
      have K27:=hide hk27
      have J7:=hide hj7
      have B7:=hide hb7
      have SZ7:=hide (show w.heap.size + 4 ≤ w7.heap.size by omega)
      clear hkz hkp hb8 hkp2 hkz2 hb82 hk07 hk17 hk27 hb7 hj7 hg7 hz7 HK0 HK1 HK2 HBW HSZ HJ
      go_upto_region 5 with ((with_reducible show wpList _ _ _ (Oper.mk _ (.store 113 _ _) _ _ _ _ :: _) _ _);refine wpList_storeKy rfl _ _ rfl w7.heap.size #[.int .i64 0,.int .i64 0,.int .i64 0,.int .i64 0,.int .i64 0,.int .i64 0,.int .i64 0,.int .i64 0,.int .i64 0,.int .i64 0,.int .i64 0,.int .i64 0] d rfl rfl HKZ.out rfl ?_)
      have z5:=K5.out.lt
      generalize (((((w7.alloc (.cells #[.int .i64 0,.int .i64 0,.int .i64 0,.int .i64 0,.int .i64 0,.int .i64 0,.int .i64 0,.int .i64 0,.int .i64 0,.int .i64 0,.int .i64 0,.int .i64 0] 113)).alloc (.cells #[.int .i64 0,.slice none 0 0] 26)).setRow w7.heap.size (kyA d)).setCell ⟨w7.heap.size + 1,0,none⟩ (.int .i64 lc)).setCell ⟨w7.heap.size + 1,1,none⟩ (.slice CA cn cc)) = w8 at *
      have hsz7:=SZ7.out
      have B08:=hide (B7.out.trans (B8.out.mono (by omega)))
      have K08:=hide (K07.out.below B8.out (by omega))
      have K18:=hide (K17.out.below B8.out (by omega))
      have K28:=hide (K27.out.below B8.out (by omega))
      have J8:=hide (J7.out.below B8.out)
      have RG8:=hide (RG7.out.kept (gr_none' B8.out) (by simp) (by simp))
      have Z8:=hide (show w.heap.size + 6 ≤ w8.heap.size by omega)
      clear B7 K07 K17 K27 RG7 J7 HKZ
      generalize w7.heap.size = b10 at *
      have SK8:=hide (SL.key K4.out HDL.out h6)
      have z0:=K08.out.lt
      have hmulN:IntKind.i64.wrap (2 * (N:Int)) = ((2 * N:Nat):Int):=by rw [IntKind.wrap_i64];omega
      obtain ⟨lp,hlp⟩:∃ y,Tl.cir N d = y:=⟨_,rfl⟩
      have HLPE:=hide hlp
      have HCL:=hide (fun (w':World) (hb:Below w8.heap.size w8 w') => by
        have h:=G.closure (N:Int) (some ⟨b10,0,none⟩) (2 * N) 12 (zs d) w' (SK8.out.below hb) (by simp [Lit.wf,IntKind.min,IntKind.max,IntKind.signed,IntKind.bits];omega)
        rw [clK_ok h1 h6 HD.out,plan_fault h1 h6 HD.out,hlp] at h
        exact h)
      clear hlp
      refine wp_region_noPanic ?_
      refine wp_region_held_drew (S:=fun z => Below w8.heap.size w8 z) (by kernel_rfl) (Below.refl _ _).drew (fun hS => ?_)
      refine wpAnyH_tk 0 (v:=Value.pointer (some ⟨w.heap.size,0,none⟩)) rfl (by kernel_rfl) (by kernel_rfl) (by kernel_rfl) (yi rfl fun w' hw' => gives_fld rfl Tryz.underlying95 rfl rfl rfl (fun w => rfl)) hS ?_
      go_frame
      refine wpAnyH_tk 1 (v:=.int .i64 N) rfl (by kernel_rfl) (by kernel_rfl) (by kernel_rfl) (yi rfl fun w' hw' => gives_load1 rfl (by kernel_rfl) rfl (by have h:=(K08.out.below hw' z0).cell 0;simpa using h)) hS ?_
      go_frame
      refine wpAnyH_tk 2 (v:=Value.pointer (some ⟨w.heap.size,0,none⟩)) rfl (by kernel_rfl) (by kernel_rfl) (by kernel_rfl) (yi rfl fun w' hw' => gives_fld rfl Tryz.underlying95 rfl rfl rfl (fun w => rfl)) hS ?_
      go_frame
      refine wpAnyH_tk 3 (v:=.int .i64 N) rfl (by kernel_rfl) (by kernel_rfl) (by kernel_rfl) (yi rfl fun w' hw' => gives_load1 rfl (by kernel_rfl) rfl (by have h:=(K08.out.below hw' z0).cell 0;simpa using h)) hS ?_
      go_frame
      refine wpAnyH_tk 4 (v:=.int .i64 ((2 * N:Nat):Int)) rfl (by kernel_rfl) (by kernel_rfl) (by kernel_rfl) (yi rfl fun w' hw' => gives_mul rfl rfl rfl hmulN) hS ?_
      go_frame
      refine wpAnyH_tk 5 (v:=.slice (some ⟨b10,0,none⟩) (2 * N) 12) rfl (by kernel_rfl) (by kernel_rfl) (by kernel_rfl) (yi rfl fun w' hw' => gives_key (N:=N) rfl rfl rfl rfl h6) hS ?_
      go_frame
      refine wpAnyH_1 6 rfl (by kernel_rfl) ?_
      refine wp_call (l:=[.tmp 18,.tmp 22]) [.int .i64 N,.slice (some ⟨b10,0,none⟩) (2 * N) 12] rfl rfl eTlClosure rfl ?_
      refine (HCL.out _ hS).mono ?_
      rintro e w9 ⟨rfl,hb9⟩
      have hS9:Below w8.heap.size w8 w9:=hS.trans hb9
      refine ⟨_,rfl,hS9,?_⟩
      go_frame
      refine wpAnyH_tk 7 (v:=.tuple #[.int .i64 (lp:Nat),.int .i64 0]) rfl (by kernel_rfl) (by kernel_rfl) (by kernel_rfl) (yi rfl fun w' hw' => gives_move (.inl rfl) rfl) hS9 ?_
      go_frame
      refine wpAnyH_tk 8 (v:=.int .i64 (lp:Nat)) rfl (by kernel_rfl) (by kernel_rfl) (by kernel_rfl) (yi rfl fun w' hw' => gives_extract rfl rfl rfl) hS9 ?_
      go_frame
      refine wpAnyH_tk 9 (v:=.int .i64 0) rfl (by kernel_rfl) (by kernel_rfl) (by kernel_rfl) (yi rfl fun w' hw' => gives_extract rfl rfl rfl) hS9 ?_
      go_frame
      refine wpAnyH_tk 10 (v:=.int .i64 (lp:Nat)) rfl (by kernel_rfl) (by kernel_rfl) (by kernel_rfl) (yi rfl fun w' hw' => gives_move (.inr rfl) rfl) hS9 ?_
      go_frame
      refine wpAnyH_tk 11 (v:=.int .i64 0) rfl (by kernel_rfl) (by kernel_rfl) (by kernel_rfl) (yi rfl fun w' hw' => gives_move (.inr rfl) rfl) hS9 ?_
      go_frame
      refine wpAnyH_done (by kernel_rfl) (noPanic_mk ?_) _
      have z8:=Z8.out
      have B09:=hide (B08.out.trans (hS9.mono (by omega)))
      have K09:=hide (K08.out.below hS9 (by omega))
      have K19:=hide (K18.out.below hS9 (by omega))
      have K29:=hide (K28.out.below hS9 (by omega))
      have K59:=hide (K5.out.below hS9 z5)
      have J9:=hide (J8.out.below hS9)
      have RG9:=hide (RG8.out.kept (gr_none' hS9) (by simp) (by simp))
      have Z9:=hide (show w.heap.size + 6 ≤ w9.heap.size by have:=hS9.size;omega)
      clear hS hS9 hb9 B08 K08 K18 K28 K5 K4 J8 RG8 Z8 z8 z0 z5 HCL SK8 B8
      go_upto_region 6 with fail
      obtain ⟨st,r1,r2,r3,r4,r5⟩:=HST.out
      have ST:=hide st
      have HT:=hide (fun (w':World) (hb:Below w9.heap.size w9 w') (K2:Nat) (v:Value) (hv:JQ w' K2 v (clG N d)) => jtimes_any F r1 r2 r3 w' ((JQ4.out.below B09.out).below hb) hv)
      have hcl:clG N d = dlt (lp - 1):=by unfold clG;rw [HLPE.out]
      have HVL:=hide (fun (w':World) => by
        have h:=jvalue_any F (lp - 1) (by have:=HCIR.out;have:=HLPE.out;omega) w'
        rw [← hcl] at h
        exact h)
      have HPL:=hide (fun (w':World) (hb:Below w9.heap.size w9 w') (K2:Nat) (v:Value) (hv:JQ w' K2 v (q * clG N d)) => jplus_any F r4 r3 r5 w' ((J9.out.below hb).jq) hv)
      have hlp1:IntKind.i64.wrap ((lp:Int) - 1) = ((lp - 1:Nat):Int):=by
        have h1:=HCIR.out
        have h2:=HLPE.out
        rw [IntKind.wrap_i64]
        omega
      clear st hcl
      have z2:=K29.out.lt
      have z5:=K59.out.lt
      refine wp_region_T (S:=fun w' => Below w9.heap.size w9 w') 7 (by kernel_rfl) (Below.refl _ _).drew (fun hS => ?_)
      refine wpT_tk 0 (v:=PV lo A n c) rfl (by kernel_rfl) (by kernel_rfl) (by kernel_rfl) (by kernel_rfl) (yi rfl fun w' hw' => gives_loadRow rfl rfl (K29.out.below hw' z2) Tryz.underlying26 (by kernel_rfl) (by kernel_rfl)) hS ?_
      go_frame
      refine wpT_tk 1 (v:=PV lc CA cn cc) rfl (by kernel_rfl) (by kernel_rfl) (by kernel_rfl) (by kernel_rfl) (yi rfl fun w' hw' => gives_loadRow rfl rfl (K59.out.below hw' z5) Tryz.underlying26 (by kernel_rfl) (by kernel_rfl)) hS ?_
      go_frame
      refine wpT_tk 2 (v:=.int .i64 (lp:Nat)) rfl (by kernel_rfl) (by kernel_rfl) (by kernel_rfl) (by kernel_rfl) (yi rfl fun w' hw' => gives_move (.inl rfl) rfl) hS ?_
      go_frame
      refine wpT_tk 3 (v:=.int .i64 ((lp - 1:Nat):Int)) rfl (by kernel_rfl) (by kernel_rfl) (by kernel_rfl) (by kernel_rfl) (yi rfl fun w' hw' => gives_sub rfl rfl rfl hlp1) hS ?_
      go_frame
      refine wpT_1 4 rfl (by kernel_rfl) ?_
      refine wp_call (l:=[.tmp 29]) [.int .i64 ((lp - 1:Nat):Int)] rfl rfl eJvalue rfl ?_
      refine (HVL.out _).mono ?_
      rintro e w10 ⟨va,rfl,hva,hbva⟩
      have hS10:Below w9.heap.size w9 w10:=hS.trans (hbva.mono hS.size)
      refine ⟨va,rfl,fun _ => hS10,?_⟩
      go_frame
      refine wpT_1 5 rfl (by kernel_rfl) ?_
      refine wp_call (l:=[.tmp 27,.tmp 30]) [PV lc CA cn cc,va] rfl rfl eJtimes rfl ?_
      refine (HT.out _ hS10 _ _ hva).mono ?_
      rintro e w11 ⟨vb,rfl,hvb,hbvb⟩
      have hS11:Below w9.heap.size w9 w11:=hS10.trans (hbvb.mono hS10.size)
      refine ⟨vb,rfl,fun _ => hS11,?_⟩
      go_frame
      refine wpT_1 6 rfl (by kernel_rfl) ?_
      refine wp_call (l:=[.tmp 26,.tmp 31]) [PV lo A n c,vb] rfl rfl eJplus rfl ?_
      refine (HPL.out _ hS11 _ _ hvb).mono ?_
      rintro e w12 ⟨vc,rfl,hvc,hbc⟩
      have hS12:Below w9.heap.size w9 w12:=hS11.trans (hbc.mono hS11.size)
      obtain ⟨l2,A2,n2,c2,rfl,hj2⟩:=hvc.jp
      refine ⟨_,rfl,fun _ => hS12,?_⟩
      go_frame
      refine wpT_1 7 rfl (by kernel_rfl) ?_
      have z9:=Z9.out
      have hk12:=K29.out.below hS12 z2
      refine wp_storeRow rfl rfl rfl hk12 (by kernel_rfl) rfl (by simp [Value.oneCell']) ?_
      refine ⟨fun h => absurd rfl h,?_⟩
      go_frame
      refine wpT_done (by kernel_rfl) (noPanic_mk ?_) _
      have s12:=hS12.size
      have s11:=hS11.size
      have K2F:=hide (show Blk (w12.setRow (w.heap.size + 2) #[.int .i64 l2,.slice A2 n2 c2]) (w.heap.size + 2) 26 #[.int .i64 l2,.slice A2 n2 c2] from setRow_heap _ _ _ _ _ _ hk12)
      have K1F:=hide (show Blk (w12.setRow (w.heap.size + 2) #[.int .i64 l2,.slice A2 n2 c2]) (w.heap.size + 1) 26 #[.int .i64 0,.slice none 0 0] from (setRow_other _ _ _ _ (by omega)).trans (K19.out.below hS12 (by omega)))
      have K0F:=hide (show Blk (w12.setRow (w.heap.size + 2) #[.int .i64 l2,.slice A2 n2 c2]) w.heap.size 95 #[.int .i64 N,.map (some b)] from (setRow_other _ _ _ _ (by omega)).trans (K09.out.below hS12 (by omega)))
      have hfar:0 < n2 → ∀ ad,A2 = some ad → w.heap.size + 3 ≤ ad.block:=fun hn ad e => by have:=hj2.far hn ad e;omega
      have JF:=hide (show JP (w12.setRow (w.heap.size + 2) #[.int .i64 l2,.slice A2 n2 c2]) (w.heap.size + 3) l2 A2 n2 c2 (s + q * clG N d) from ⟨hj2.lo,SL.setRow_ hj2.sl (fun hn ad e => by have:=hfar hn ad e;omega) _,hfar⟩)
      have BF:=hide (Below.setRow_ (B09.out.trans (hS12.mono (by omega))) (show w.heap.size ≤ w.heap.size + 2 by omega) #[.int .i64 l2,.slice A2 n2 c2])
      have gB:Below w9.heap.size w9 w12:=hS12
      have RGF:=hide ((RG9.out.kept (gr_none' gB) (by simp) (by simp)).kept (gr_row w12 (w.heap.size + 2) #[.int .i64 l2,.slice A2 n2 c2]) (by intro e;injection e with e;omega) (by intro e;injection e with e;omega))
      have ZF:=hide (show w.heap.size + 4 ≤ (w12.setRow (w.heap.size + 2) #[.int .i64 l2,.slice A2 n2 c2]).heap.size by simp;omega)
      clear hS hS10 hS11 hS12 hbva hbvb hbc hva hvb hvc hj2 hk12 hfar gB B09 K09 K19 K29 K59 J9 RG9 Z9 z9 z2 z5 s11 s12 r1 r2 r3 r4 r5 HT HVL HPL HST hlp1
      generalize w12.setRow (w.heap.size + 2) #[.int .i64 l2,.slice A2 n2 c2] = w13 at *
      go_wp2_with fail
      go_roundw
      case rel => exact ⟨rem',orem2,s + q * clG N d,cnt',l2,A2,n2,c2,RGF.out,EN2.out,ST.out,KS2.out,JF.out,K0F.out,K1F.out,K2F.out,BF.out,ZF.out⟩
      case measure => rw [RGF.out.left_eq,HOR.out];exact HLT.out
end Go.Proofs.YtndgffiihbdppaaGreatDoor
namespace Go.Proofs.YtndgffiihbdppaaGreatDoor
set_option linter.unusedVariables false
set_option linter.unusedSimpArgs false
open Go.RowKit Go.Maps

structure Bw (N:Nat) (w:List Int) (o:Cmb):Prop where
  beh:Beh N w o
  nm:∃ V,V ≤ 3 ^ w.length ∧ NmO (3 * w.length) o V
  len:o.length ≤ 2 ^ w.length
theorem Bw.nil (N:Nat):Bw N [] (addOj [] (Tl.straight N) (LP.term 0 1)):=by
  refine ⟨Beh.nil N,⟨1,Nat.le_refl _,?_⟩,Nat.le_refl _⟩
  have h:=NmO.add (E:=0) (o:=[]) (V:=0) .nil (Tl.straight N) (LP.N1.term 0 1)
  exact h
theorem Bw.snoc {N:Nat} (h1:1 ≤ N) (h6:N ≤ 6) {w:List Int} {x:Int} {o o':Cmb} {V:Nat} (h:Bw N w o) (hw:∀ y ∈ w,y ≠ 0 ∧ y.natAbs < N) (hx:x ≠ 0 ∧ x.natAbs < N) (hV:V ≤ 3 ^ w.length) (hn:Nxt N x (3 * w.length) V o o'):Bw N (w ++ [x]) o':=by
  refine ⟨h.beh.snoc h1 h6 hw hx hn.sum,?_,?_⟩
  · obtain ⟨V',h1,h2⟩:=hn.nm
    refine ⟨V',?_,?_⟩
    · rw [List.length_append,List.length_singleton,Nat.pow_succ];omega
    · rw [List.length_append,List.length_singleton,Nat.mul_add];exact h2
  · have:=hn.len
    have:=h.len
    rw [List.length_append,List.length_singleton,Nat.pow_succ]
    omega
set_option maxRecDepth 100000 in
set_option maxHeartbeats 4000000 in
theorem jbracket_any (F:PolyC) (G:TlC) (B:BraidC) (m:Int) (A:Option Addr) (n c:Nat) (xs:List Int) (w:World) (ha:SL w A n c xs) (hm:(Lit.int .i64 m).wf = true) :
    Calls Tryz.prog 45 #[.int .i64 m,.slice A n c] w (GivesPE w (joE m xs,(LP.canon (joB m xs)).1,(LP.canon (joB m xs)).2)):=by
  obtain ⟨z,hz⟩:∃ y,joE m xs = y:=⟨_,rfl⟩
  obtain ⟨q,hq⟩:∃ y,joB m xs = y:=⟨_,rfl⟩
  rw [hz,hq]
  have HJE:=hide hz
  have HJB:=hide hq
  clear hz hq
  have hk0:=Blk.new w 26 #[.int .i64 0,.slice none 0 0]
  have hb0:Below w.heap.size w (w.alloc (.cells #[.int .i64 0,.slice none 0 0] 26)):=(Below.refl _ _).alloc (Nat.le_refl _) _
  have hz0:(w.alloc (.cells #[.int .i64 0,.slice none 0 0] 26)).heap.size = w.heap.size + 1:=by simp
  have HCK:=hide (B.check m A n c xs _ (ha.below hb0) hm)
  have HA:=hide ha
  have HK0:=hide hk0
  have HB0:=hide hb0
  have HZ0:=hide hz0
  have HLN:=hide ha.il.len
  clear ha hk0 hb0 hz0 B
  go_enter Tryz.func45,Tryz.ntmps45
  go_wp2_with fail
  refine HCK.out.mono ?_
  rintro e w1 ⟨rfl,hb1⟩
  generalize w.alloc (.cells #[.int .i64 0,.slice none 0 0] 26) = wa at *
  have hzz:=HZ0.out
  have hk1:=HK0.out.below hb1 (by omega)
  have K1:=hide hk1
  have B1:=hide (HB0.out.trans (hb1.mono (by omega)))
  have Z1:=hide (show w.heap.size + 1 ≤ w1.heap.size by have:=hb1.size;omega)
  have q0:=hk1.cell 0
  have q1:=hk1.cell 1
  have q2:=hk1.frozen 0
  have q3:=hk1.frozen 1
  simp at q0 q1
  clear hb1 hzz HK0 HB0 HZ0 HCK hk1
  clear wa
  by_cases hf:bfault m xs = 0
  · have hbz:=bfault_zero hf
    obtain ⟨h1,h6,h30,hlet⟩:=hbz
    obtain ⟨N,hN⟩:∃ N:Nat,m = (N:Int):=⟨m.toNat,by omega⟩
    subst hN
    have h1:1 ≤ N:=by omega
    have h6:N ≤ 6:=by omega
    have HLET:Hid (∀ y ∈ xs,y ≠ 0 ∧ y.natAbs < N):=hide (fun y hy => by have:=hlet y hy;omega)
    have hln:=HLN.out
    rw [hf]
    by_cases h12:12 < n
    · have hje:joE (N:Int) xs = 2:=by unfold joE;rw [hf,if_neg (by simp),if_pos (by omega)]
      have hjb:joB (N:Int) xs = 0:=by unfold joB;rw [hje];rfl
      obtain rfl:(2:Int) = z:=hje.symm.trans HJE.out
      obtain rfl:(0:LP) = q:=hjb.symm.trans HJB.out
      have f:decide ((n:Int) > 12) = true:=by simp;omega
      clear hje hjb hlet hf hln h30 HJE HJB
      go_wp2_with fail
      refine bodyPost_ret (results_pe rfl _ rfl rfl ((K1.out.set_ 0 (.int .i64 0)).set_ 1 (.slice none 0 0))) rfl ?_
      exact ⟨none,0,0,by rw [LP.canon_zero];rfl,by rw [LP.canon_zero];exact SL.nil_ _,fun h => absurd h (by omega),(B1.out.setCell (p:=⟨w.heap.size,0,none⟩) (Nat.le_refl _) _).setCell (p:=⟨w.heap.size,1,none⟩) (Nat.le_refl _) _⟩
    · have hje:joE (N:Int) xs = 0:=by unfold joE;rw [hf,if_neg (by simp),if_neg (by omega)]
      have hjb:joB (N:Int) xs = brk N xs:=by unfold joB;rw [if_pos hje,Int.toNat_natCast]
      obtain rfl:(0:Int) = z:=hje.symm.trans HJE.out
      obtain rfl:brk N xs = q:=hjb.symm.trans HJB.out
      have f:decide ((n:Int) > 12) = false:=by simp;omega
      have HI:=hide (fun (w:World) => jident_any F G h1 h6 w)
      clear hje hjb hlet hf h30 HJE HJB
      go_wp2_with fail
      refine (HI.out _).mono ?_
      rintro e w2 ⟨b,rfl,hc2,hb2⟩
      have hz1:=Z1.out
      have hz2:=hb2.size
      have hb3:Below w2.heap.size w2 (w2.alloc (.cells #[.int .i64 N,.map (some b)] 95)):=(Below.refl _ _).alloc (Nat.le_refl _) _
      have C3:=hide ((hc2.below hb3).mono (Nat.zero_le _))
      have K7:=hide (Blk.new w2 95 #[.int .i64 N,.map (some b)])
      have K3:=hide ((K1.out.below hb2 (by omega)).below hb3 (by omega))
      have B3:=hide ((B1.out.trans (hb2.mono (by omega))).trans (hb3.mono (by omega)))
      have Z3:=hide (show (w2.alloc (.cells #[.int .i64 N,.map (some b)] 95)).heap.size = w2.heap.size + 1 by simp)
      have Z7:=hide (show w.heap.size + 1 ≤ w2.heap.size by omega)
      clear hc2 hb2 hb3 hz1 hz2 K1 B1 Z1 HI q0 q1 q2 q3
      clear w1
      go_upto_region 7 with fail
      generalize w2.alloc (.cells #[.int .i64 N,.map (some b)] 95) = w3 at *
      generalize w2.heap.size = b7 at *
      go_wp2_with fail
      go_loopw [25] (fun iv wr => ∃ (k:Nat) (o:Cmb) (b K:Nat),k ≤ n ∧ iv = .int .i64 k ∧ Bw N (xs.take k) o ∧ CmB N wr b K o ∧ Blk wr b7 95 #[.int .i64 N,.map (some b)] ∧ Blk wr w.heap.size 26 #[.int .i64 0,.slice none 0 0] ∧ Below w.heap.size w wr) (fun iv _ => n - (intOf iv).toNat)
      case atStart => exact ⟨0,_,b,_,Nat.zero_le _,rfl,by rw [List.take_zero];exact Bw.nil N,C3.out,K7.out,K3.out,B3.out⟩
      case round =>
        clear C3 K7 K3 B3 Z3
        obtain ⟨k,o,b,K,hk,rfl,hbw,hc,hk7,hk0,hb⟩:=hrel
        have HBW:=hide hbw
        have HC:=hide hc
        have HK7:=hide hk7
        have HK0:=hide hk0
        have HB:=hide hb
        have q0:=hk7.cell 0
        have q1:=hk7.cell 1
        have q2:=hk7.frozen 0
        have q3:=hk7.frozen 1
        simp at q0 q1
        clear hbw hc hk7 hk0 hb
        have hz7:=Z7.out
        have htl:(xs.take k).length = k:=by rw [List.length_take];omega
        have HLK:Hid (∀ y ∈ xs.take k,y ≠ 0 ∧ y.natAbs < N):=hide (fun y hy => HLET.out y (List.mem_of_mem_take hy))
        by_cases hlt:k < n
        · obtain ⟨ad,hA,hal,hac⟩:=(HA.out.below HB.out).il.mem (by omega)
          have ck:=hac k hlt
          subst hA
          have hxm:xs.getD k 0 ∈ xs:=by
            have:k < xs.length:=by omega
            simp only [List.getD,List.getElem?_eq_getElem this,Option.getD_some]
            exact List.getElem_mem this
          have hxl:=HLET.out _ hxm
          have hT:xs.take (k + 1) = xs.take k ++ [xs.getD k 0]:=by
            have hkl:k < xs.length:=by omega
            rw [List.take_succ_eq_append_getElem hkl]
            simp [List.getD,List.getElem?_eq_getElem hkl]
          obtain ⟨x,hx⟩:∃ x,xs.getD k 0 = x:=⟨_,rfl⟩
          rw [hx] at ck hxl hT
          obtain ⟨V,hV,hN⟩:=HBW.out.nm
          have hlen:=HBW.out.len
          rw [htl] at hN hlen hV
          have p3:3 ^ k ≤ 3 ^ 11:=Nat.pow_le_pow_right (by omega) (by omega)
          have p2:2 ^ k ≤ 2 ^ 11:=Nat.pow_le_pow_right (by omega) (by omega)
          have p3':3 ^ 11 = 177147:=by decide
          have p2':2 ^ 11 = 2048:=by decide
          have HF:=hide (jfollow_any F G h1 h6 hxl.1 hxl.2 (E:=3 * k) (V:=V) (by omega) (by omega) hN (by omega) wr HC.out)
          have HS:=hide (fun (o':Cmb) (hn:Nxt N x (3 * k) V o o') => Bw.snoc h1 h6 HBW.out HLK.out hxl (by rw [htl];exact hV) (by rw [htl];exact hn))
          have HT:=hide hT
          clear hV hN hlen p3 p2 p3' p2' hxm hx hxl hT hac htl
          go_wp2_with fail
          refine HF.out.mono ?_
          rintro e w5 ⟨o',hnx,b',rfl,hc5,hb5⟩
          have hk75:=HK7.out.below hb5 HK7.out.lt
          have hk05:=HK0.out.below hb5 HK0.out.lt
          have hl7:=HK7.out.lt
          have q0:=hk75.cell 0
          have q1:=hk75.cell 1
          have q2:=hk75.frozen 0
          have q3:=hk75.frozen 1
          simp at q0 q1
          have NX:=hide hnx
          have C5:=hide hc5
          have K75:=hide hk75
          have K05:=hide hk05
          have B5:=hide (HB.out.trans (hb5.mono HB.out.size))
          clear hnx hc5 hk75 hk05 hb5 HK7 HK0 HB HC
          go_wp2_with fail
          go_roundw
          case rel => exact ⟨k + 1,o',b',wr.heap.size,by omega,by go_num,by rw [HT.out];exact HS.out o' NX.out,(C5.out.set_ hl7).set_ hl7,(K75.out.set_ 0 (.int .i64 N)).set_ 1 (.map (some b')),(K05.out.far (p:=⟨b7,0,none⟩) (by show w.heap.size ≠ b7;omega) _).far (p:=⟨b7,1,none⟩) (by show w.heap.size ≠ b7;omega) _,(B5.out.setCell (p:=⟨b7,0,none⟩) (by show w.heap.size ≤ b7;omega) _).setCell (p:=⟨b7,1,none⟩) (by show w.heap.size ≤ b7;omega) _⟩
          case measure => simp [intOf];omega
        · have he:k = n:=by omega
          have hfull:xs.take k = xs:=by rw [List.take_of_length_le (by omega)]
          obtain ⟨V,hV,hN⟩:=HBW.out.nm
          have hbeh:=HBW.out.beh
          rw [hfull] at hV hN hbeh
          have p3:3 ^ xs.length ≤ 3 ^ 12:=Nat.pow_le_pow_right (by omega) (by omega)
          have p3':3 ^ 12 = 531441:=by decide
          have hcl:=jclosed_any F G h1 h6 (by omega:3 * xs.length ≤ 50) (by omega) hN wr HC.out
          have hsum:sumO (clG N) o = brk N xs:=hbeh.closed h1 h6 HLET.out (fun d hd => (Tl.plan_one h1 h6 hd).2.1.1)
          rw [hsum] at hcl
          have HCL:=hide hcl
          clear hcl hsum hbeh hV hN p3 p3' hfull htl
          go_wp2_with fail
          refine HCL.out.mono ?_
          rintro e w5 ⟨v,rfl,hv,hb5⟩
          obtain ⟨lo,A2,n2,c2,rfl,hj⟩:=hv.jp
          have hk05:=HK0.out.below hb5 HK0.out.lt
          have q0:=hk05.cell 0
          have q1:=hk05.cell 1
          have q2:=hk05.frozen 0
          have q3:=hk05.frozen 1
          simp at q0 q1
          have hl0:=HK0.out.lt
          have J:=hide hj
          have K05:=hide hk05
          have B5:=hide (HB.out.trans (hb5.mono HB.out.size))
          clear hv hj hk05 hb5 HK7 HK0 HB HC HCL
          go_wp2_with fail
          refine bodyPost_ret (results_pe rfl _ rfl rfl ((K05.out.set_ 0 (.int .i64 lo)).set_ 1 (.slice A2 n2 c2))) rfl ?_
          have j2:=(J.out.set_ hl0 (i:=0) (.int .i64 lo)).set_ hl0 (i:=1) (.slice A2 n2 c2)
          exact ⟨A2,n2,c2,by rw [j2.lo];rfl,j2.sl,fun hn ad e => by have:=j2.far hn ad e;omega,(B5.out.setCell (p:=⟨w.heap.size,0,none⟩) (Nat.le_refl _) _).setCell (p:=⟨w.heap.size,1,none⟩) (Nat.le_refl _) _⟩
  · have hje:joE m xs = bfault m xs:=by unfold joE;rw [if_pos hf]
    have hjb:joB m xs = 0:=by unfold joB;rw [hje,if_neg hf]
    have f:(bfault m xs != 0) = true:=by simpa using hf
    obtain rfl:bfault m xs = z:=hje.symm.trans HJE.out
    obtain rfl:(0:LP) = q:=hjb.symm.trans HJB.out
    clear hje hjb HJE HJB
    go_wp2_with fail
    refine bodyPost_ret (results_pe rfl _ rfl rfl ((K1.out.set_ 0 (.int .i64 0)).set_ 1 (.slice none 0 0))) rfl ?_
    exact ⟨none,0,0,by rw [LP.canon_zero];rfl,by rw [LP.canon_zero];exact SL.nil_ _,fun h => absurd h (by omega),(B1.out.setCell (p:=⟨w.heap.size,0,none⟩) (Nat.le_refl _) _).setCell (p:=⟨w.heap.size,1,none⟩) (Nat.le_refl _) _⟩
end Go.Proofs.YtndgffiihbdppaaGreatDoor
