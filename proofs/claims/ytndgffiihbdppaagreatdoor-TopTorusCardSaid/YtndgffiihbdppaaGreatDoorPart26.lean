/- Several texts in one. -/
import Derived.Test.YtndgffiihbdppaaGreatDoorPart25
import Derived.Test.YtndgffiihbdppaaGreatDoorPart12
namespace Go.Proofs.YtndgffiihbdppaaGreatDoor
set_option linter.unusedVariables false
set_option linter.unusedSimpArgs false
open Go.RowKit Go.Maps

structure Nxt (N:Nat) (x:Int) (E V:Nat) (o o':Cmb):Prop where
  sum:∀ G,sumO G o' = sumO (backO N x G) o
  nm:∃ V',V' ≤ 3 * V ∧ NmO (E + 3) o' V'
  len:o'.length ≤ 2 * o.length
structure Lp (N:Nat) (x:Int) (E V:Nat) (o rem o':Cmb):Prop where
  sum:∀ G,sumO G o' + sumO (backO N x G) rem = sumO (backO N x G) o
  nm:∃ v v',NmO E rem v ∧ NmO (E + 3) o' v' ∧ v' + 3 * v ≤ 3 * V
  len:o'.length + 2 * rem.length ≤ 2 * o.length
theorem Lp.start {N:Nat} {x:Int} {E V:Nat} {o:Cmb} (h:NmO E o V):Lp N x E V o o []:=
  ⟨fun G => CR.zero_add _,⟨V,0,h,.nil,by omega⟩,by simp⟩
theorem Lp.done {N:Nat} {x:Int} {E V:Nat} {o o':Cmb} (h:Lp N x E V o [] o'):Nxt N x E V o o':=by
  refine ⟨fun G => ?_,?_,by have:=h.len;simpa using this⟩
  · rw [← h.sum G];exact (CR.add_zero _).symm
  · obtain ⟨v,v',_,h2,h3⟩:=h.nm
    exact ⟨v',by omega,h2⟩
theorem Lp.perm {N:Nat} {x:Int} {E V:Nat} {o o' r r':Cmb} (h:Lp N x E V o r o') (hp:r.Perm r'):Lp N x E V o r' o':=by
  refine ⟨fun G => ?_,?_,by rw [← hp.length_eq];exact h.len⟩
  · rw [← sumO_perm _ hp];exact h.sum G
  · obtain ⟨v,v',h1,h2,h3⟩:=h.nm
    exact ⟨v,v',h1.perm hp,h2,h3⟩
theorem Lp.step {N:Nat} {x:Int} {E V:Nat} {o o' r:Cmb} {d:List Nat} {q:LP} (h:Lp N x E V o ((d,q) :: r) o') (hm:(Tl.mul N d (Tl.hook N x.natAbs)).2 ≤ 1):Lp N x E V o r (stepO N x o' d q):=by
  refine ⟨fun G => ?_,?_,?_⟩
  · rw [stepO_sum,← h.sum G,CR.add_assoc]
    rfl
  · obtain ⟨v,v',h1,h2,h3⟩:=h.nm
    obtain ⟨u,u',h4,h5,h6⟩:=h1.inv
    exact ⟨u',v' + 3 * u,h5,h2.step h4 hm,by omega⟩
  · have h1:=h.len
    have h2:=stepO_length N x o' d q
    rw [List.length_cons] at h1
    omega
theorem Lp.rts {N:Nat} {x:Int} {E V:Nat} {o o' r:Cmb} {d:List Nat} {q:LP} (h:Lp N x E V o ((d,q) :: r) o') (hE:E ≤ 40) (hV:V ≤ 1000000) (hm:(Tl.mul N d (Tl.hook N x.natAbs)).2 ≤ 1) :
    LP.Rt q ∧ LP.Rt (q * LP.term (sgx x) 1) ∧ LP.Rt (getO o' d) ∧ LP.Rt (getO o' d + q * LP.term (sgx x) 1) ∧ LP.Rt (q * LP.term (-sgx x) 1) ∧ LP.Rt (dlt (Tl.mul N d (Tl.hook N x.natAbs)).2) ∧ LP.Rt (q * LP.term (-sgx x) 1 * dlt (Tl.mul N d (Tl.hook N x.natAbs)).2)
      ∧ LP.Rt (getO (addOj o' d (q * LP.term (sgx x) 1)) (Tl.mul N d (Tl.hook N x.natAbs)).1) ∧ LP.Rt (getO (addOj o' d (q * LP.term (sgx x) 1)) (Tl.mul N d (Tl.hook N x.natAbs)).1 + q * LP.term (-sgx x) 1 * dlt (Tl.mul N d (Tl.hook N x.natAbs)).2):=by
  obtain ⟨v,v',h1,h2,h3⟩:=h.nm
  obtain ⟨u,u',h4,h5,h6⟩:=h1.inv
  have a1:=h4.mul (LP.N1.term (sgx x) 1)
  have a2:=h4.mul (LP.N1.term (-sgx x) 1)
  have e1:(1:Int).natAbs = 1:=rfl
  rw [sgx_abs,e1,Nat.mul_one] at a1
  rw [Int.natAbs_neg,sgx_abs,e1,Nat.mul_one] at a2
  have a3:=a2.mul (dlt_n1 (Tl.mul N d (Tl.hook N x.natAbs)).2)
  have e2:2 ^ (Tl.mul N d (Tl.hook N x.natAbs)).2 ≤ 2:=Nat.pow_le_pow_right (n:=2) (by omega) hm
  have a4:=a3.mono (E':=E + 3) (V':=u * 2) (by omega) (Nat.mul_le_mul_left u e2)
  obtain ⟨g,hg1,hg2⟩:=h2.get d
  have a5:=a1.mono (E':=E + 3) (V':=u) (by omega) (Nat.le_refl _)
  have a6:=hg2.add a5
  obtain ⟨g',hg3,hg4⟩:=(h2.add d a5).get (Tl.mul N d (Tl.hook N x.natAbs)).1
  have a7:=hg4.add a4
  exact ⟨h4.rt (by omega) (by omega),a5.rt (by omega) (by omega),hg2.rt (by omega) (by omega),a6.rt (by omega) (by omega),a2.rt (by omega) (by omega),dlt_rt (by omega),a4.rt (by omega) (by omega),hg4.rt (by omega) (by omega),a7.rt (by omega) (by omega)⟩
theorem sgx_neg_abs (x:Int):(-sgx x).natAbs = 1:=by rw [Int.natAbs_neg,sgx_abs]
theorem gr_none {w w':World} (h:w.grownBy w' none):Below w.heap.size w w':=⟨h.os,h.tape,h.output,h.size,fun k hk => h.block k hk (fun e => by cases e)⟩
theorem gr_none' {w w':World} (hb:Below w.heap.size w w'):w.grownBy w' none:=⟨hb.os,hb.tape,hb.output,hb.size,fun b h _ => hb.block b h⟩
theorem below_gr {B g:Nat} {w0 w w':World} (h:Below B w0 w) (hg:w.grownBy w' (some g)) (hB:B ≤ g) (hs:B ≤ w.heap.size):Below B w0 w':=
  ⟨hg.os.trans h.os,hg.tape.trans h.tape,hg.output.trans h.output,Nat.le_trans h.size hg.size,fun k hk => (hg.block k (by omega) (fun e => by injection e with e;omega)).trans (h.block k hk)⟩
theorem RangeW.nocell {P:Program} {k:TypeId} {w:World} {b r cnt:Nat} {T rem:List (Value × Value)} (h:RangeW P k w b r T rem cnt) (ad:Addr) (e:ad.block = r):w.cell? ad = none:=by
  obtain ⟨n,D,left,⟨es,clock,since,seen,c0,h1,h2,h3,h4,h5,_⟩,_⟩:=h.run
  unfold World.cell?
  rw [e,h5]
set_option maxRecDepth 100000 in
set_option maxHeartbeats 4000000 in
theorem jfollow_any (F:PolyC) (G:TlC) {N:Nat} (h1:1 ≤ N) (h6:N ≤ 6) {x:Int} (hx0:x ≠ 0) (hxN:x.natAbs < N) {b K E V:Nat} {o:Cmb} (hE:E ≤ 40) (hV:V ≤ 1000000) (hN:NmO E o V) (hlen:o.length ≤ 10000) (w:World) (hB:CmB N w b K o) :
    Calls Tryz.prog 69 #[CV N b,.int .i64 x] w fun e w' => ∃ o',Nxt N x E V o o' ∧ GivesC N o' w e w':=by
  have hmm:=@run_makeMap Tryz.prog
  have HG:=hide (fun (w:World) => by
    have h:=G.gener (N:Int) (x.natAbs:Int) w (by simp [Lit.wf,IntKind.min,IntKind.max,IntKind.signed,IntKind.bits];omega) (by simp [Lit.wf,IntKind.min,IntKind.max,IntKind.signed,IntKind.bits];omega)
    rw [geE_ok (by omega) hxN h6,geL_ok (by omega) hxN h6] at h
    exact h)
  have hWx:IntKind.i64.wrap (-x) = -x:=by rw [IntKind.wrap_i64];omega
  have HM:Hid (max x (-x) = (x.natAbs:Int)):=hide (by omega)
  have HWt:=hide (fun (w:World) => jweights_any x w)
  have hb0:Below w.heap.size w ((w.alloc (.cells #[.int .i64 N,.map (some b)] 95)).alloc (.cells #[.int .i64 0,.map none] 95)):=((Below.refl _ _).alloc (Nat.le_refl _) _).alloc (by simp) _
  have hk0:Blk ((w.alloc (.cells #[.int .i64 N,.map (some b)] 95)).alloc (.cells #[.int .i64 0,.map none] 95)) w.heap.size 95 #[.int .i64 N,.map (some b)]:=(Blk.new w _ _).alloc _
  have hk1:Blk ((w.alloc (.cells #[.int .i64 N,.map (some b)] 95)).alloc (.cells #[.int .i64 0,.map none] 95)) (w.heap.size + 1) 95 #[.int .i64 0,.map none]:=by
    have:=Blk.new (w.alloc (.cells #[.int .i64 N,.map (some b)] 95)) 95 #[.int .i64 0,.map none]
    rwa [World.size_alloc] at this
  have hz0:((w.alloc (.cells #[.int .i64 N,.map (some b)] 95)).alloc (.cells #[.int .i64 0,.map none] 95)).heap.size = w.heap.size + 2:=by simp
  have HB0:=hide hb0
  have HK0:=hide hk0
  have HK1:=hide hk1
  have HZ0:=hide hz0
  have HCB:=hide hB
  have HNM:=hide hN
  have HXN:=hide (And.intro hx0 hxN)
  have HLEN:=hide hlen
  clear hb0 hk0 hk1 hz0 hB hN hx0 hxN hlen
  go_enter Tryz.func69,Tryz.ntmps69
  go_upto_region 1 with fail
  generalize (w.alloc (.cells #[.int .i64 N,.map (some b)] 95)).alloc (.cells #[.int .i64 0,.map none] 95) = w1 at *
  go_wp2_with fail
  refine (HWt.out _).mono ?_
  rintro e w2 ⟨v5,v6,rfl,hv5,hv6,hb2⟩
  obtain ⟨l5,A5,n5,c5,rfl,hj5⟩:=hv5.jp
  obtain ⟨l6,A6,n6,c6,rfl,hj6⟩:=hv6.jp
  have hz:=HZ0.out
  have hzz:=hb2.size
  have ha5:Below w2.heap.size w2 ((w2.alloc (.cells #[.int .i64 l5,.slice A5 n5 c5] 26)).alloc (.cells #[.int .i64 l6,.slice A6 n6 c6] 26)):=((Below.refl _ _).alloc (Nat.le_refl _) _).alloc (by simp) _
  have hk5:Blk ((w2.alloc (.cells #[.int .i64 l5,.slice A5 n5 c5] 26)).alloc (.cells #[.int .i64 l6,.slice A6 n6 c6] 26)) w2.heap.size 26 #[.int .i64 l5,.slice A5 n5 c5]:=(Blk.new w2 _ _).alloc _
  have hk6:Blk ((w2.alloc (.cells #[.int .i64 l5,.slice A5 n5 c5] 26)).alloc (.cells #[.int .i64 l6,.slice A6 n6 c6] 26)) (w2.heap.size + 1) 26 #[.int .i64 l6,.slice A6 n6 c6]:=by
    have:=Blk.new (w2.alloc (.cells #[.int .i64 l5,.slice A5 n5 c5] 26)) 26 #[.int .i64 l6,.slice A6 n6 c6]
    rwa [World.size_alloc] at this
  have hz2:((w2.alloc (.cells #[.int .i64 l5,.slice A5 n5 c5] 26)).alloc (.cells #[.int .i64 l6,.slice A6 n6 c6] 26)).heap.size = w2.heap.size + 2:=by simp
  have hk0:=(HK0.out.below hb2 (by omega)).below ha5 (by omega)
  have hk1:=(HK1.out.below hb2 (by omega)).below ha5 (by omega)
  have hbw:=(HB0.out.trans (hb2.mono (by omega))).trans (ha5.mono (by omega))
  have J5:=hide ((hv5.below ha5).mono (Nat.zero_le _))
  have J6:=hide ((hv6.below ha5).mono (Nat.zero_le _))
  have K0:=hide hk0
  have K1:=hide hk1
  have K5:=hide hk5
  have K6:=hide hk6
  have BW:=hide hbw
  have Z2:=hide hz2
  have Z3:=hide (show w.heap.size + 2 ≤ w2.heap.size by omega)
  clear hv5 hv6 hj5 hj6 hb2 ha5 hk5 hk6 hz2 hk0 hk1 hbw hz hzz HK0 HK1 HB0 HZ0 HWt
  clear w1
  go_upto_region 2 with fail
  generalize (w2.alloc (.cells #[.int .i64 l5,.slice A5 n5 c5] 26)).alloc (.cells #[.int .i64 l6,.slice A6 n6 c6] 26) = w3 at *
  generalize w2.heap.size = b5 at *
  have q0:=K0.out.cell 0
  simp at q0
  go_upto_region 3 with (first | ((with_reducible show wpList _ _ _ (Oper.mk _ (.call { callee:=.builtin .max,args:=_,argTypes:=_ }) _ _ _ _ :: _) _ _);refine wpList_gives rfl (gives_maxI rfl rfl rfl HM.out) ?_) | (go_at_call 84;refine (HG.out _).mono ?_;rintro e w4 ⟨GA,gn,gc,rfl,hgs,hgb⟩))
  clear q0
  have hz2:=Z2.out
  have hz3:=Z3.out
  have hzz:=hgb.size
  have k0:=hide (K0.out.below hgb (by omega))
  have k1:=hide (K1.out.below hgb (by omega))
  have k5:=hide (K5.out.below hgb (by omega))
  have k6:=hide (K6.out.below hgb (by omega))
  have y5:=hide (J5.out.below hgb)
  have y6:=hide (J6.out.below hgb)
  have yg:=hide hgs
  have yb:=hide (HCB.out.below (BW.out.trans (hgb.mono (by omega))))
  have yw:=hide (BW.out.trans (hgb.mono (by omega)))
  have hk0:=k0.out
  have q0:=hk0.cell 0
  simp at q0
  have hb5:Below w4.heap.size w4 ((w4.alloc (.map #[] 0)).alloc (.cells #[.int .i64 N,.map (some w4.heap.size)] 95)):=((Below.refl _ _).alloc (Nat.le_refl _) _).alloc (by simp) _
  have hz5:((w4.alloc (.map #[] 0)).alloc (.cells #[.int .i64 N,.map (some w4.heap.size)] 95)).heap.size = w4.heap.size + 2:=by simp
  have hk9:Blk ((w4.alloc (.map #[] 0)).alloc (.cells #[.int .i64 N,.map (some w4.heap.size)] 95)) (w4.heap.size + 1) 95 #[.int .i64 N,.map (some w4.heap.size)]:=by
    have:=Blk.new (w4.alloc (.map #[] 0)) 95 #[.int .i64 N,.map (some w4.heap.size)]
    rwa [World.size_alloc] at this
  have hcn:=(CmB.made N w4).below ((Below.refl (w4.alloc (.map #[] 0)).heap.size (w4.alloc (.map #[] 0))).alloc (Nat.le_refl _) (.cells #[.int .i64 N,.map (some w4.heap.size)] 95))
  have X9:=hide hk9
  have XC:=hide hcn
  have XZ:=hide hz5
  have ZZ:=hide (show b5 + 2 ≤ w4.heap.size by omega)
  have HB5:=hide hb5
  clear hz2 hz3 hzz hk0 hb5 hz5 hk9 hcn hgs hgb K0 K1 K5 K6 J5 J6 BW Z2
  go_upto_region 4 with fail
  clear q0
  generalize (w4.alloc (.map #[] 0)).alloc (.cells #[.int .i64 N,.map (some w4.heap.size)] 95) = w5 at *
  obtain ⟨bn,hbn⟩:∃ y,w4.heap.size = y:=⟨_,rfl⟩
  have HBN:=hide hbn
  simp only [hbn] at X9 XC XZ ZZ HB5 ⊢
  clear hbn
  clear hmm
  obtain ⟨T,hT,hE0⟩:=yb.out.mp
  have hkeys:=yb.out.keys
  have hwf:∀ p ∈ T,∃ kl,keyOf Tryz.prog 113 p.1 = some kl:=fun p hp => by
    obtain ⟨d,hd,e⟩:=hE0.mem p hp
    obtain ⟨r,hr,e2⟩:=List.mem_map.1 hd
    rw [e,← e2]
    exact keyE (plan_small h1 h6 (hkeys r hr)).2
  have HT:=hide (hT.below (HBN.out ▸ HB5.out))
  have HE0:=hide hE0
  have HWF:=hide hwf
  have HKEYS:=hide hkeys
  have hbw:=HCB.out.lt
  have hzz:=HBN.out
  have z3:=Z3.out
  have zz:=ZZ.out
  have hk0:=k0.out.below (HBN.out ▸ HB5.out) (by omega)
  have q0:=hk0.cell 1
  simp at q0
  clear hT hE0 hwf hkeys hk0
  go_upto_region 5 with ((with_reducible show wpList _ _ _ (Oper.mk _ (.range _ _) _ _ _ _ :: _) _ _);refine wpList_rangeW _ rfl _ _ _ rfl keyK mapT b T rfl HT.out HWF.out ?_;intro w6 cnt0 hrg hg6 hz6)
  have hxz:=XZ.out
  rw [hxz] at hrg hz6
  simp only [hxz]
  have h6n:=gr_none hg6
  have XC6:=hide (XC.out.below h6n)
  have X96:=hide (X9.out.below h6n (by omega))
  have XW6:=hide (HB5.out.trans (h6n.mono (by omega)))
  have HRG:=hide hrg
  have HZ6:=hide hz6
  clear hrg hg6 hz6 h6n hxz q0 XC X9 XZ HT HWF HB5
  clear w5
  go_frame
  go_loopw [38] (fun _ wr => ∃ (rem:List (Value × Value)) (orem o':Cmb) (cnt:Nat),RangeW Tryz.prog 113 wr b (bn + 2) T rem cnt ∧ Ents w4 K rem orem ∧ Lp N x E V o orem o' ∧ (∀ p ∈ orem,p.1 ∈ Tl.plan N) ∧ CmB N wr bn bn o' ∧ Blk wr (bn + 1) 95 #[.int .i64 N,.map (some bn)] ∧ Below bn w4 wr ∧ bn + 3 ≤ wr.heap.size) (fun _ wr => wr.rangeLeft b (bn + 2))
  case atStart => exact ⟨T,o,[],cnt0,HRG.out,HE0.out,Lp.start HNM.out,HKEYS.out,XC6.out,X96.out,XW6.out,by have:=HZ6.out;omega⟩
  case round =>
    clear HRG HE0 HKEYS XC6 X96 XW6 HZ6
    obtain ⟨rem,orem,o',cnt,hrg,hen,hlp,hkeys,hcb,hk9,hbw4,hsz⟩:=hrel
    have HRG:=hide hrg
    have HEN:=hide hen
    have HLP:=hide hlp
    have HKEYS:=hide hkeys
    have HCBN:=hide hcb
    have HK9:=hide hk9
    have HBW4:=hide hbw4
    have HSZ:=hide hsz
    have HOR:=hide hrg.left_eq
    clear hrg hen hlp hkeys hcb hk9 hbw4 hsz
    go_wp2_with (refine wpList_nextW _ rfl _ rfl keyK b (bn + 2) T rem cnt rfl HRG.out ?_ ?_)
    · intro hrem
      subst hrem
      have hor:orem = []:=by
        have h:=HEN.out
        cases h
        rfl
      subst hor
      have hk1:=k1.out.below HBW4.out (by omega)
      have q0:=HK9.out.cell 0
      have q1:=HK9.out.cell 1
      have q2:=hk1.cell 0
      have q3:=hk1.cell 1
      have q4:=hk1.frozen 0
      have q5:=hk1.frozen 1
      simp at q0 q1 q2 q3
      have R1:=hide hk1
      have RW:=hide (yw.out.trans (HBW4.out.mono (by omega)))
      clear hk1 HRG HOR
      go_wp2_with fail
      refine bodyPost_ret (results_comb rfl _ rfl ((R1.out.set_ 0 (.int .i64 N)).set_ 1 (.map (some bn)))) rfl ?_
      exact ⟨o',HLP.out.done,bn,rfl,((HCBN.out.set_ (by omega)).set_ (by omega)).mono (by omega),(RW.out.setCell (p:=⟨w.heap.size + 1,0,none⟩) (by show w.heap.size ≤ w.heap.size + 1;omega) _).setCell (p:=⟨w.heap.size + 1,1,none⟩) (by show w.heap.size ≤ w.heap.size + 1;omega) _⟩
    · intro kx c rem' w7 cnt' hpm hrg7 hlt hg7 hz7 hent
      obtain ⟨orem1,hp1,hen1⟩:=HEN.out.perm hpm
      obtain ⟨d,q,orem2,rfl,hkx,hjq,hen2⟩:=hen1.inv
      have hkx:kx = ky d:=hkx
      have hjq:JQ w4 K c q:=hjq
      subst hkx
      obtain ⟨lc,CA,cn,cc,rfl,hjp⟩:=hjq.jp
      have hd:d ∈ Tl.plan N:=HKEYS.out (d,q) (hp1.symm.subset List.mem_cons_self)
      have hlp1:=HLP.out.perm hp1
      have hone:=(Tl.plan_one h1 h6 hd).2.2 _ (hook_gens (by have:=HXN.out;omega) HXN.out.2)
      have hrts:=hlp1.rts hE hV hone
      have hol:o'.length + 2 ≤ 100000:=by
        have e1:=hlp1.len
        have e2:=HLEN.out
        rw [List.length_cons] at e1
        omega
      have hsz7:=HSZ.out
      have hcb7:=HCBN.out.kept hg7 (by omega) HRG.out.nocell
      have hk97:=HK9.out.grown hg7 (fun e => by injection e with e;omega)
      have hb7:=below_gr HBW4.out hg7 (by omega) (by omega)
      have hdl:=(plan_small h1 h6 hd).1
      have LP1:=hide (hlp1.step hone)
      have RTS:=hide hrts
      have HOL:=hide hol
      have EN2:=hide hen2
      have KS2:=hide (fun p hp => HKEYS.out p (hp1.symm.subset (List.mem_cons_of_mem _ hp)):∀ p ∈ orem2,p.1 ∈ Tl.plan N)
      have JQ4:=hide hjq
      have RG7:=hide hrg7
      have HLT:=hide hlt
      have HD:=hide hd
      have HDL:=hide hdl
      clear hlp1 hrts hol hen2 hjq hjp hen1 hpm hone HLP HEN HKEYS hp1 hrg7 HRG hlt
      have hz8:((w7.alloc (.cells #[.int .i64 0,.int .i64 0,.int .i64 0,.int .i64 0,.int .i64 0,.int .i64 0,.int .i64 0,.int .i64 0,.int .i64 0,.int .i64 0,.int .i64 0,.int .i64 0] 113)).alloc (.cells #[.int .i64 0,.slice none 0 0] 26)).heap.size = w7.heap.size + 2:=by simp
      have hkz:Blk ((w7.alloc (.cells #[.int .i64 0,.int .i64 0,.int .i64 0,.int .i64 0,.int .i64 0,.int .i64 0,.int .i64 0,.int .i64 0,.int .i64 0,.int .i64 0,.int .i64 0,.int .i64 0] 113)).alloc (.cells #[.int .i64 0,.slice none 0 0] 26)) w7.heap.size 113 #[.int .i64 0,.int .i64 0,.int .i64 0,.int .i64 0,.int .i64 0,.int .i64 0,.int .i64 0,.int .i64 0,.int .i64 0,.int .i64 0,.int .i64 0,.int .i64 0]:=(Blk.new w7 _ _).alloc _
      have hkp:Blk ((w7.alloc (.cells #[.int .i64 0,.int .i64 0,.int .i64 0,.int .i64 0,.int .i64 0,.int .i64 0,.int .i64 0,.int .i64 0,.int .i64 0,.int .i64 0,.int .i64 0,.int .i64 0] 113)).alloc (.cells #[.int .i64 0,.slice none 0 0] 26)) (w7.heap.size + 1) 26 #[.int .i64 0,.slice none 0 0]:=by
        have:=Blk.new (w7.alloc (.cells #[.int .i64 0,.int .i64 0,.int .i64 0,.int .i64 0,.int .i64 0,.int .i64 0,.int .i64 0,.int .i64 0,.int .i64 0,.int .i64 0,.int .i64 0,.int .i64 0] 113)) 26 #[.int .i64 0,.slice none 0 0]
        rwa [World.size_alloc] at this
      have hb8:Below w7.heap.size w7 ((w7.alloc (.cells #[.int .i64 0,.int .i64 0,.int .i64 0,.int .i64 0,.int .i64 0,.int .i64 0,.int .i64 0,.int .i64 0,.int .i64 0,.int .i64 0,.int .i64 0,.int .i64 0] 113)).alloc (.cells #[.int .i64 0,.slice none 0 0] 26)):=((Below.refl _ _).alloc (Nat.le_refl _) _).alloc (by simp) _
      have HKZ:=hide hkz
      have hkp2:Blk (((w7.alloc (.cells #[.int .i64 0,.int .i64 0,.int .i64 0,.int .i64 0,.int .i64 0,.int .i64 0,.int .i64 0,.int .i64 0,.int .i64 0,.int .i64 0,.int .i64 0,.int .i64 0] 113)).alloc (.cells #[.int .i64 0,.slice none 0 0] 26)).setRow w7.heap.size (kyA d)) (w7.heap.size + 1) 26 #[.int .i64 0,.slice none 0 0]:=(setRow_other _ _ _ _ (by omega)).trans hkp
      have hkz2:Blk (((w7.alloc (.cells #[.int .i64 0,.int .i64 0,.int .i64 0,.int .i64 0,.int .i64 0,.int .i64 0,.int .i64 0,.int .i64 0,.int .i64 0,.int .i64 0,.int .i64 0,.int .i64 0] 113)).alloc (.cells #[.int .i64 0,.slice none 0 0] 26)).setRow w7.heap.size (kyA d)) w7.heap.size 113 (kyA d):=setRow_heap _ _ _ _ _ _ hkz
      have hb82:=Below.setRow_ hb8 (Nat.le_refl _) (kyA d)
      have q0:=hkp2.cell 0
      have q1:=hkp2.cell 1
      have q2:=hkp2.frozen 0
      have q3:=hkp2.frozen 1
      simp at q0 q1
      have K10:=hide ((hkz2.far (p:=⟨w7.heap.size + 1,0,none⟩) (by show w7.heap.size ≠ w7.heap.size + 1;omega) (.int .i64 lc)).far (p:=⟨w7.heap.size + 1,1,none⟩) (by show w7.heap.size ≠ w7.heap.size + 1;omega) (.slice CA cn cc))
      have K11:=hide ((hkp2.set_ 0 (.int .i64 lc)).set_ 1 (.slice CA cn cc))
      have B8:=hide ((hb82.setCell (p:=⟨w7.heap.size + 1,0,none⟩) (by show w7.heap.size ≤ w7.heap.size + 1;omega) (.int .i64 lc)).setCell (p:=⟨w7.heap.size + 1,1,none⟩) (by show w7.heap.size ≤ w7.heap.size + 1;omega) (.slice CA cn cc))
      have CB7:=hide hcb7
      have K97:=hide hk97
      have B7:=hide hb7
      have SZ7:=hide (show bn + 3 ≤ w7.heap.size by omega)
      clear hz8 hkz hkp hb8 hkp2 hkz2 hb82 hcb7 hk97 hb7 hg7 hz7 HCBN HK9 HBW4 HSZ
      go_upto_region 7 with ((with_reducible show wpList _ _ _ (Oper.mk _ (.store 113 _ _) _ _ _ _ :: _) _ _);refine wpList_storeKy rfl _ _ rfl w7.heap.size #[.int .i64 0,.int .i64 0,.int .i64 0,.int .i64 0,.int .i64 0,.int .i64 0,.int .i64 0,.int .i64 0,.int .i64 0,.int .i64 0,.int .i64 0,.int .i64 0] d rfl rfl HKZ.out rfl ?_)
      -- FROM HERE: tools/gen_jfollow.py
      have z11:=K11.out.lt
      generalize (((((w7.alloc (.cells #[.int .i64 0,.int .i64 0,.int .i64 0,.int .i64 0,.int .i64 0,.int .i64 0,.int .i64 0,.int .i64 0,.int .i64 0,.int .i64 0,.int .i64 0,.int .i64 0] 113)).alloc (.cells #[.int .i64 0,.slice none 0 0] 26)).setRow w7.heap.size (kyA d)).setCell ⟨w7.heap.size + 1,0,none⟩ (.int .i64 lc)).setCell ⟨w7.heap.size + 1,1,none⟩ (.slice CA cn cc)) = w8 at *
      have hsz7:=SZ7.out
      have TB:Hid (∀ w',Below bn w4 w' → Below w4.heap.size w4 w'):=hide (fun w' h => by rw [HBN.out];exact h)
      have B48:=hide (B7.out.trans (B8.out.mono (by omega)))
      have CB8:=hide (CB7.out.below B8.out)
      have K98:=hide (K97.out.below B8.out (by omega))
      have RG8:=hide (RG7.out.kept (gr_none' B8.out) (by simp) (by simp))
      have Z8:=hide (show bn + 5 ≤ w8.heap.size by omega)
      clear B7 CB7 K97 RG7
      generalize w7.heap.size = b10 at *
      have SK8:=hide (SL.key K10.out HDL.out h6)
      have hk0:=k0.out.below (TB.out _ B48.out) (by omega)
      have q0:=hk0.cell 0
      simp at q0
      go_upto_region 8 with ((with_reducible show wpList _ _ _ (Oper.mk _ (.slice 113 _ none (some _) none) _ _ _ _ :: _) _ _);refine wpList_gives rfl (gives_key (N:=N) rfl rfl rfl (by first | rfl | (rw [IntKind.wrap_i64];omega)) h6) ?_)
      clear q0 hk0
      obtain ⟨r1,r2,r3,r4,r5,r6,r7,r8,r9⟩:=RTS.out
      have HT1:=hide (fun (w':World) (hb:Below w8.heap.size w8 w') => jtimes_any F r1 (term_rt (by rcases sgx_abs x with h;omega) (by decide):LP.Rt (LP.term (sgx x) 1)) r2 w' ((JQ4.out.below (TB.out _ B48.out)).below hb) ((y5.out.below (TB.out _ B48.out)).below hb))
      have HA1:=hide (fun (w':World) (hb:Below w8.heap.size w8 w') (K2:Nat) (v:Value) (hv:JQ w' K2 v (q * LP.term (sgx x) 1)) => jadd_any F h1 h6 HD.out r3 r2 r4 (by have:=HOL.out;omega) _ _ _ _ v w' (SK8.out.below hb) hv (CB8.out.below hb))
      have k5':=hide (k5.out.below (TB.out _ B48.out) (by omega))
      have z98:=K98.out.lt
      have z11':=K11.out.lt
      have z5:=k5'.out.lt
      refine wp_region_T (S:=fun w' => Below w8.heap.size w8 w') 5 (by kernel_rfl) (Below.refl _ _).drew (fun hS => ?_)
      refine wpT_tk 0 (v:=CV N bn) rfl (by kernel_rfl) (by kernel_rfl) (by kernel_rfl) (by kernel_rfl) (yi rfl fun w' hw' => gives_loadRow rfl rfl (K98.out.below hw' z98) Tryz.underlying95 (by kernel_rfl) (by kernel_rfl)) hS ?_
      go_frame
      refine wpT_tk 1 (v:=.slice (some ⟨b10,0,none⟩) (2 * N) 12) rfl (by kernel_rfl) (by kernel_rfl) (by kernel_rfl) (by kernel_rfl) (yi rfl fun w' hw' => gives_move (.inl rfl) rfl) hS ?_
      go_frame
      refine wpT_tk 2 (v:=PV lc CA cn cc) rfl (by kernel_rfl) (by kernel_rfl) (by kernel_rfl) (by kernel_rfl) (yi rfl fun w' hw' => gives_loadRow rfl rfl (K11.out.below hw' z11') Tryz.underlying26 (by kernel_rfl) (by kernel_rfl)) hS ?_
      go_frame
      refine wpT_tk 3 (v:=PV l5 A5 n5 c5) rfl (by kernel_rfl) (by kernel_rfl) (by kernel_rfl) (by kernel_rfl) (yi rfl fun w' hw' => gives_loadRow rfl rfl (k5'.out.below hw' z5) Tryz.underlying26 (by kernel_rfl) (by kernel_rfl)) hS ?_
      go_frame
      refine wpT_1 4 rfl (by kernel_rfl) ?_
      refine wp_call (l:=[.tmp 49,.tmp 50]) [PV lc CA cn cc,PV l5 A5 n5 c5] rfl rfl eJtimes rfl ?_
      refine (HT1.out _ hS).mono ?_
      rintro e w9 ⟨v9,rfl,hv9,hb9⟩
      have hS9:Below w8.heap.size w8 w9:=hS.trans hb9
      refine ⟨v9,rfl,fun _ => hS9,?_⟩
      go_frame
      refine wpT_1 5 rfl (by kernel_rfl) ?_
      refine wp_call (l:=[.tmp 47,.tmp 48,.tmp 51]) [CV N bn,.slice (some ⟨b10,0,none⟩) (2 * N) 12,v9] rfl rfl eJadd rfl ?_
      refine (HA1.out _ hS9 _ _ hv9).mono ?_
      rintro e w10 ⟨rfl,hc10,hg10⟩
      refine ⟨_,rfl,fun h => absurd rfl h,?_⟩
      go_frame
      refine wpT_done (by kernel_rfl) (noPanic_mk ?_) _
      have z8:=Z8.out
      have g810:w8.grownBy w10 (some bn):=gr_trans (gr_below hS9) hg10
      have B410:=hide (below_gr B48.out g810 (Nat.le_refl _) (by omega))
      have K910:=hide (K98.out.grown g810 (fun e => by injection e with e;omega))
      have K1010:=hide (K10.out.grown g810 (fun e => by injection e with e;omega))
      have K1110:=hide (K11.out.grown g810 (fun e => by injection e with e;omega))
      have RG10:=hide (RG8.out.kept g810 (by intro e;injection e with e;omega) (by intro e;injection e with e;omega))
      have CB10:=hide hc10
      have Z10:=hide (show bn + 5 ≤ w10.heap.size by have:=g810.size;omega)
      have SK10:=hide (SL.key K1010.out HDL.out h6)
      clear hS hS9 hb9 hv9 hc10 hg10 g810 B48 K98 K10 K11 RG8 CB8 Z8 z8 z98 z11 z11' z5 k5' SK8 HT1 HA1 B8
      have hmem:(Tl.mul N d (Tl.hook N x.natAbs)).1 ∈ Tl.plan N:=(Tl.plan_step h6 HD.out (hook_gens (by have:=HXN.out;omega) HXN.out.2)).mem
      have hHP:=(Tl.gens_plan h1 h6 (hook_gens (by have:=HXN.out;omega) HXN.out.2)).1
      have HPR:=hide (by
        have h:=G.product (N:Int) (some ⟨b10,0,none⟩) (2 * N) 12 (zs d) GA gn gc (zs (Tl.hook N x.natAbs)) w10 SK10.out (yg.out.below (TB.out _ B410.out)) (by simp [Lit.wf,IntKind.min,IntKind.max,IntKind.signed,IntKind.bits];omega)
        rw [prE_ok h1 h6 HD.out hHP,(prL_ok h1 h6 HD.out hHP).1,(prL_ok h1 h6 HD.out hHP).2] at h
        exact h)
      have hone:=(Tl.plan_one h1 h6 HD.out).2.2 _ (hook_gens (by have:=HXN.out;omega) HXN.out.2)
      have HMEM:=hide hmem
      have HONE:=hide hone
      clear hmem hHP hone
      have hk0:=k0.out.below (TB.out _ B410.out) (by omega)
      have q0:=hk0.cell 0
      simp at q0
      obtain ⟨dm,hdm⟩:∃ y,(Tl.mul N d (Tl.hook N x.natAbs)).1 = y:=⟨_,rfl⟩
      obtain ⟨km,hkm⟩:∃ y,(Tl.mul N d (Tl.hook N x.natAbs)).2 = y:=⟨_,rfl⟩
      have HDM:=hide hdm
      have HKM:=hide hkm
      rw [hdm] at r8 r9 HMEM HPR
      rw [hkm] at r6 r7 r9 HONE HPR
      clear hdm hkm
      go_upto_region 10 with (go_at_call 86;refine HPR.out.mono ?_;rintro e w11 ⟨PA,pn,pc,rfl,hps,hpb⟩)
      clear q0 hk0
      have z10:=Z10.out
      have B411:=hide (B410.out.trans (hpb.mono (by omega)))
      have K911:=hide (K910.out.below hpb (by omega))
      have K1111:=hide (K1110.out.below hpb K1110.out.lt)
      have RG11:=hide (RG10.out.kept (gr_none' hpb) (by simp) (by simp))
      have CB11:=hide (CB10.out.below hpb)
      have Z11:=hide (show bn + 5 ≤ w11.heap.size by have:=hpb.size;omega)
      have SP:=hide hps
      clear hps hpb z10 HPR B410 K910 K1110 K1010 RG10 CB10 Z10 SK10
      have HT2:=hide (fun (w':World) (hb:Below w11.heap.size w11 w') => jtimes_any F r1 (term_rt (by rw [sgx_neg_abs];omega) (by decide):LP.Rt (LP.term (-sgx x) 1)) r5 w' ((JQ4.out.below (TB.out _ B411.out)).below hb) ((y6.out.below (TB.out _ B411.out)).below hb))
      have HVL:=hide (fun (w':World) => jvalue_any F km (by have:=HONE.out;omega) w')
      have HT3:=hide (fun (w':World) (K1 K2:Nat) (u v:Value) (hu:JQ w' K1 u (q * LP.term (-sgx x) 1)) (hv:JQ w' K2 v (dlt km)) => jtimes_any F r5 r6 r7 w' hu hv)
      have HA2:=hide (fun (w':World) (hb:Below w11.heap.size w11 w') (K2:Nat) (v:Value) (hv:JQ w' K2 v (q * LP.term (-sgx x) 1 * dlt km)) => jadd_any F h1 h6 HMEM.out r8 r7 r9 (by have:=HOL.out;have:=putO_length d (getO o' d + q * LP.term (sgx x) 1) o';show (putO o' d _).length ≤ 100000;omega) _ _ _ _ v w' (SP.out.below hb) hv (CB11.out.below hb))
      have k6':=hide (k6.out.below (TB.out _ B411.out) (by omega))
      have z911:=K911.out.lt
      have z1111:=K1111.out.lt
      have z6:=k6'.out.lt
      refine wp_region_T (S:=fun w' => Below w11.heap.size w11 w') 8 (by kernel_rfl) (Below.refl _ _).drew (fun hS => ?_)
      refine wpT_tk 0 (v:=CV N bn) rfl (by kernel_rfl) (by kernel_rfl) (by kernel_rfl) (by kernel_rfl) (yi rfl fun w' hw' => gives_loadRow rfl rfl (K911.out.below hw' z911) Tryz.underlying95 (by kernel_rfl) (by kernel_rfl)) hS ?_
      go_frame
      refine wpT_tk 1 (v:=.slice PA pn pc) rfl (by kernel_rfl) (by kernel_rfl) (by kernel_rfl) (by kernel_rfl) (yi rfl fun w' hw' => gives_move (.inl rfl) rfl) hS ?_
      go_frame
      refine wpT_tk 2 (v:=PV lc CA cn cc) rfl (by kernel_rfl) (by kernel_rfl) (by kernel_rfl) (by kernel_rfl) (yi rfl fun w' hw' => gives_loadRow rfl rfl (K1111.out.below hw' z1111) Tryz.underlying26 (by kernel_rfl) (by kernel_rfl)) hS ?_
      go_frame
      refine wpT_tk 3 (v:=PV l6 A6 n6 c6) rfl (by kernel_rfl) (by kernel_rfl) (by kernel_rfl) (by kernel_rfl) (yi rfl fun w' hw' => gives_loadRow rfl rfl (k6'.out.below hw' z6) Tryz.underlying26 (by kernel_rfl) (by kernel_rfl)) hS ?_
      go_frame
      refine wpT_tk 5 (v:=.int .i64 km) rfl (by kernel_rfl) (by kernel_rfl) (by kernel_rfl) (by kernel_rfl) (yi rfl fun w' hw' => gives_move (.inl rfl) rfl) hS ?_
      go_frame
      refine wpT_1 4 rfl (by kernel_rfl) ?_
      refine wp_call (l:=[.tmp 64,.tmp 65]) [PV lc CA cn cc,PV l6 A6 n6 c6] rfl rfl eJtimes rfl ?_
      refine (HT2.out _ hS).mono ?_
      rintro e w12 ⟨ut,rfl,hut,hbut⟩
      have hS12:Below w11.heap.size w11 w12:=hS.trans (hbut.mono hS.size)
      refine ⟨ut,rfl,fun _ => hS12,?_⟩
      go_frame
      refine wpT_1 6 rfl (by kernel_rfl) ?_
      refine wp_call (l:=[.tmp 67]) [.int .i64 km] rfl rfl eJvalue rfl ?_
      refine (HVL.out _).mono ?_
      rintro e w13 ⟨uv,rfl,huv,hbuv⟩
      have hS13:Below w11.heap.size w11 w13:=hS12.trans (hbuv.mono hS12.size)
      refine ⟨uv,rfl,fun _ => hS13,?_⟩
      go_frame
      refine wpT_1 7 rfl (by kernel_rfl) ?_
      refine wp_call (l:=[.tmp 66,.tmp 68]) [ut,uv] rfl rfl eJtimes rfl ?_
      refine (HT3.out _ _ _ _ _ (hut.below hbuv) huv).mono ?_
      rintro e w14 ⟨v14,rfl,hv14,hb14⟩
      have hS14:Below w11.heap.size w11 w14:=hS13.trans (hb14.mono hS13.size)
      refine ⟨v14,rfl,fun _ => hS14,?_⟩
      go_frame
      refine wpT_1 8 rfl (by kernel_rfl) ?_
      refine wp_call (l:=[.tmp 62,.tmp 63,.tmp 69]) [CV N bn,.slice PA pn pc,v14] rfl rfl eJadd rfl ?_
      refine (HA2.out _ hS14 _ _ hv14).mono ?_
      rintro e w15 ⟨rfl,hc15,hg15⟩
      refine ⟨_,rfl,fun h => absurd rfl h,?_⟩
      go_frame
      refine wpT_done (by kernel_rfl) (noPanic_mk ?_) _
      have z11:=Z11.out
      have g1115:w11.grownBy w15 (some bn):=gr_trans (gr_below hS14) hg15
      have hc16:CmB N w15 bn bn (stepO N x o' d q):=by unfold stepO;rw [HDM.out,HKM.out];exact hc15
      have B415:=hide (below_gr B411.out g1115 (Nat.le_refl _) (by omega))
      have K915:=hide (K911.out.grown g1115 (fun e => by injection e with e;omega))
      have RG15:=hide (RG11.out.kept g1115 (by intro e;injection e with e;omega) (by intro e;injection e with e;omega))
      have CB15:=hide hc16
      have Z15:=hide (show bn + 3 ≤ w15.heap.size by have:=g1115.size;omega)
      clear hS hS12 hS13 hS14 hb14 hv14 hc15 hg15 hc16 g1115 z11 B411 K911 RG11 CB11 Z11 HT2 HT3 HVL HA2 k6' z911 z1111 z6 K1111 SP r1 r2 r3 r4 r5 r6 r7 r8 r9 RTS hut huv hbut hbuv
      go_wp2_with fail
      go_roundw
      case rel => exact ⟨rem',orem2,stepO N x o' d q,cnt',RG15.out,EN2.out,LP1.out,KS2.out,CB15.out,K915.out,B415.out,Z15.out⟩
      case measure => rw [RG15.out.left_eq,HOR.out];exact HLT.out
end Go.Proofs.YtndgffiihbdppaaGreatDoor
