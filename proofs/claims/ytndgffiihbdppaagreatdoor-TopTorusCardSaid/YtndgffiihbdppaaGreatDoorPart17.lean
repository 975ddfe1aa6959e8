/- Several texts in one. -/
import Derived.Test.YtndgffiihbdppaaGreatDoorPart16
namespace Go.Proofs.YtndgffiihbdppaaGreatDoor
set_option linter.unusedVariables false
set_option linter.unusedSimpArgs false
open Go.RowKit

theorem eAddX:∀ args w,(callFunc 59 args).run Tryz.prog w = .ok (.enter 59 args) w:=enters (fn:=Tryz.f59) (by kernel_rfl) (by kernel_rfl) (by kernel_rfl)
theorem eSubX:∀ args w,(callFunc 60 args).run Tryz.prog w = .ok (.enter 60 args) w:=enters (fn:=Tryz.f60) (by kernel_rfl) (by kernel_rfl) (by kernel_rfl)
set_option maxRecDepth 100000 in
set_option maxHeartbeats 2000000 in
theorem addX_any (x y:Int) (w:World) (hx:x.natAbs ≤ 100000000) (hy:y.natAbs ≤ 100000000) :
    Calls Tryz.prog 59 #[.int .i64 x,.int .i64 y] w fun e w' => e = .returned (.int .i64 (x + y)) ∧ w = w':=by
  have hw:IntKind.i64.wrap (x + y) = x + y:=by rw [IntKind.wrap_i64];omega
  go_enter Tryz.func59,Tryz.ntmps59
  go_wp2_with fail
  go_ret
  exact ⟨rfl,rfl⟩

set_option maxRecDepth 100000 in
set_option maxHeartbeats 4000000 in
theorem ladd_any (la:Int) (A:Option Addr) (n c:Nat) (xs:List Int) (lb:Int) (B:Option Addr) (m d:Nat) (ys:List Int) (w:World) (ha:SL w A n c xs) (hb:SL w B m d ys) :
    Calls Tryz.prog 33 #[PV la A n c,PV lb B m d] w (GivesPE w (LP.addR la xs lb ys)):=by
  have hbw:Below w.heap.size w (((w.alloc (.cells #[.int .i64 la,.slice A n c] 26)).alloc (.cells #[.int .i64 lb,.slice B m d] 26)).alloc (.cells #[.int .i64 0,.slice none 0 0] 26)):=(((Below.refl _ _).alloc (Nat.le_refl _) _).alloc (by simp) _).alloc (by simp;omega) _
  have hA:=((Blk.new w 26 #[.int .i64 la,.slice A n c]).alloc (.cells #[.int .i64 lb,.slice B m d] 26)).alloc (.cells #[.int .i64 0,.slice none 0 0] 26)
  have hB:=(Blk.new (w.alloc (.cells #[.int .i64 la,.slice A n c] 26)) 26 #[.int .i64 lb,.slice B m d]).alloc (.cells #[.int .i64 0,.slice none 0 0] 26)
  have hR:=Blk.new ((w.alloc (.cells #[.int .i64 la,.slice A n c] 26)).alloc (.cells #[.int .i64 lb,.slice B m d] 26)) 26 #[.int .i64 0,.slice none 0 0]
  simp only [World.size_alloc] at hB hR
  have HC:=hide (combine_any (fo:=59) (fun x y => x + y) eAddX (fun x y w h1 h2 => addX_any x y w h1 h2) la A n c xs lb B m d ys (LP.of la xs + LP.of lb ys) (fun k => by rw [LP.co_add]) rfl _ (ha.below hbw) (hb.below hbw))
  have HT:Hid (LP.two2 la xs lb ys (LP.fit (LP.of la xs + LP.of lb ys)) = LP.addR la xs lb ys):=hide rfl
  rw [HT.out] at HC
  have HW:=hide hbw
  have BR:=hide hR
  clear ha hb hbw HT
  generalize LP.addR la xs lb ys = Z at *
  go_enter Tryz.func33,Tryz.ntmps33
  go_upto_region 1 with fail
  obtain ⟨w0,hw0⟩:∃ x,((w.alloc (.cells #[.int .i64 la,.slice A n c] 26)).alloc (.cells #[.int .i64 lb,.slice B m d] 26)).alloc (.cells #[.int .i64 0,.slice none 0 0] 26) = x:=⟨_,rfl⟩
  rw [hw0] at hA hB BR HW HC ⊢
  have hq0:=hA.cell 0
  have hq1:=hA.cell 1
  have hr0:=hB.cell 0
  have hr1:=hB.cell 1
  simp at hq0 hq1 hr0 hr1
  clear hA hB hR hw0
  go_wp2_with fail
  refine HC.out.mono ?_
  rintro e w1 ⟨R,rn,rc,rfl,hs,hnw,hb⟩
  have HW1:=hide (HW.out.trans (hb.mono HW.out.size))
  have BR1:=hide (BR.out.below hb BR.out.lt)
  have HFAR:=hide (show 0 < rn → ∀ ad,R = some ad → w.heap.size + 1 + 1 < ad.block from fun h ad e => by have:=hnw h ad e;have:=BR.out.lt;omega)
  have HS:=hide hs
  clear hb hnw hs hq0 hq1 hr0 hr1 HC HW BR
  have hf0:=BR1.out.frozen 0
  have hf1:=BR1.out.frozen 1
  have hc0:=BR1.out.cell 0
  have hc1:=BR1.out.cell 1
  simp at hc0 hc1
  have hlt:=BR1.out.lt
  obtain ⟨ze,zl,zc⟩:=Z
  go_wp2_with fail
  refine bodyPost_ret (results_pe rfl _ rfl rfl ((BR1.out.set_ 0 (.int .i64 zl)).set_ 1 (.slice R rn rc))) rfl ?_
  refine ⟨R,rn,rc,rfl,?_,fun h ad e => by have:=HFAR.out h ad e;omega,?_⟩
  · exact (HS.out.setCell (fun h ad e => by have:=HFAR.out h ad e;omega) 0 _).setCell (fun h ad e => by have:=HFAR.out h ad e;omega) 1 _
  · exact (HW1.out.setCell (p:=⟨w.heap.size + 1 + 1,0,none⟩) (by show w.heap.size ≤ w.heap.size + 1 + 1;omega) _).setCell (p:=⟨w.heap.size + 1 + 1,1,none⟩) (by show w.heap.size ≤ w.heap.size + 1 + 1;omega) _

set_option maxRecDepth 100000 in
set_option maxHeartbeats 2000000 in
theorem subX_any (x y:Int) (w:World) (hx:x.natAbs ≤ 100000000) (hy:y.natAbs ≤ 100000000) :
    Calls Tryz.prog 60 #[.int .i64 x,.int .i64 y] w fun e w' => e = .returned (.int .i64 (x - y)) ∧ w = w':=by
  have hw:IntKind.i64.wrap (x - y) = x - y:=by rw [IntKind.wrap_i64];omega
  go_enter Tryz.func60,Tryz.ntmps60
  go_wp2_with fail
  go_ret
  exact ⟨rfl,rfl⟩

set_option maxRecDepth 100000 in
set_option maxHeartbeats 4000000 in
theorem lsub_any (la:Int) (A:Option Addr) (n c:Nat) (xs:List Int) (lb:Int) (B:Option Addr) (m d:Nat) (ys:List Int) (w:World) (ha:SL w A n c xs) (hb:SL w B m d ys) :
    Calls Tryz.prog 34 #[PV la A n c,PV lb B m d] w (GivesPE w (LP.subR la xs lb ys)):=by
  have hbw:Below w.heap.size w (((w.alloc (.cells #[.int .i64 la,.slice A n c] 26)).alloc (.cells #[.int .i64 lb,.slice B m d] 26)).alloc (.cells #[.int .i64 0,.slice none 0 0] 26)):=(((Below.refl _ _).alloc (Nat.le_refl _) _).alloc (by simp) _).alloc (by simp;omega) _
  have hA:=((Blk.new w 26 #[.int .i64 la,.slice A n c]).alloc (.cells #[.int .i64 lb,.slice B m d] 26)).alloc (.cells #[.int .i64 0,.slice none 0 0] 26)
  have hB:=(Blk.new (w.alloc (.cells #[.int .i64 la,.slice A n c] 26)) 26 #[.int .i64 lb,.slice B m d]).alloc (.cells #[.int .i64 0,.slice none 0 0] 26)
  have hR:=Blk.new ((w.alloc (.cells #[.int .i64 la,.slice A n c] 26)).alloc (.cells #[.int .i64 lb,.slice B m d] 26)) 26 #[.int .i64 0,.slice none 0 0]
  simp only [World.size_alloc] at hB hR
  have HC:=hide (combine_any (fo:=60) (fun x y => x - y) eSubX (fun x y w h1 h2 => subX_any x y w h1 h2) la A n c xs lb B m d ys (LP.of la xs + -LP.of lb ys) (fun k => by rw [LP.co_add,LP.co_neg];omega) rfl _ (ha.below hbw) (hb.below hbw))
  have HT:Hid (LP.two2 la xs lb ys (LP.fit (LP.of la xs + -LP.of lb ys)) = LP.subR la xs lb ys):=hide rfl
  rw [HT.out] at HC
  have HW:=hide hbw
  have BR:=hide hR
  clear ha hb hbw HT
  generalize LP.subR la xs lb ys = Z at *
  go_enter Tryz.func34,Tryz.ntmps34
  go_upto_region 1 with fail
  obtain ⟨w0,hw0⟩:∃ x,((w.alloc (.cells #[.int .i64 la,.slice A n c] 26)).alloc (.cells #[.int .i64 lb,.slice B m d] 26)).alloc (.cells #[.int .i64 0,.slice none 0 0] 26) = x:=⟨_,rfl⟩
  rw [hw0] at hA hB BR HW HC ⊢
  have hq0:=hA.cell 0
  have hq1:=hA.cell 1
  have hr0:=hB.cell 0
  have hr1:=hB.cell 1
  simp at hq0 hq1 hr0 hr1
  clear hA hB hR hw0
  go_wp2_with fail
  refine HC.out.mono ?_
  rintro e w1 ⟨R,rn,rc,rfl,hs,hnw,hb⟩
  have HW1:=hide (HW.out.trans (hb.mono HW.out.size))
  have BR1:=hide (BR.out.below hb BR.out.lt)
  have HFAR:=hide (show 0 < rn → ∀ ad,R = some ad → w.heap.size + 1 + 1 < ad.block from fun h ad e => by have:=hnw h ad e;have:=BR.out.lt;omega)
  have HS:=hide hs
  clear hb hnw hs hq0 hq1 hr0 hr1 HC HW BR
  have hf0:=BR1.out.frozen 0
  have hf1:=BR1.out.frozen 1
  have hc0:=BR1.out.cell 0
  have hc1:=BR1.out.cell 1
  simp at hc0 hc1
  have hlt:=BR1.out.lt
  obtain ⟨ze,zl,zc⟩:=Z
  go_wp2_with fail
  refine bodyPost_ret (results_pe rfl _ rfl rfl ((BR1.out.set_ 0 (.int .i64 zl)).set_ 1 (.slice R rn rc))) rfl ?_
  refine ⟨R,rn,rc,rfl,?_,fun h ad e => by have:=HFAR.out h ad e;omega,?_⟩
  · exact (HS.out.setCell (fun h ad e => by have:=HFAR.out h ad e;omega) 0 _).setCell (fun h ad e => by have:=HFAR.out h ad e;omega) 1 _
  · exact (HW1.out.setCell (p:=⟨w.heap.size + 1 + 1,0,none⟩) (by show w.heap.size ≤ w.heap.size + 1 + 1;omega) _).setCell (p:=⟨w.heap.size + 1 + 1,1,none⟩) (by show w.heap.size ≤ w.heap.size + 1 + 1;omega) _

end Go.Proofs.YtndgffiihbdppaaGreatDoor
namespace Go.Proofs.YtndgffiihbdppaaGreatDoor
set_option linter.unusedVariables false
set_option linter.unusedSimpArgs false
open Go.RowKit

theorem eMulX:∀ args w,(callFunc 72 args).run Tryz.prog w = .ok (.enter 72 args) w:=enters (fn:=Tryz.f72) (by kernel_rfl) (by kernel_rfl) (by kernel_rfl)

set_option maxRecDepth 100000 in
set_option maxHeartbeats 4000000 in
theorem mulX_any (la:Int) (A:Option Addr) (n c:Nat) (xs:List Int) (lb:Int) (B:Option Addr) (m d:Nat) (ys:List Int) (ba b7 cb:Nat) (w:World) (ha:SL w A n c xs) (hb:SL w B m d ys) (h1:la.natAbs ≤ 1000) (h2:n ≤ 200) (h3:lb.natAbs ≤ 1000) (h4:m ≤ 200)
    (hx:∀ j,(xs.getD j 0).natAbs ≤ 100000000) (hy:∀ k,(LP.co (LP.of lb ys) k).natAbs ≤ 100000000)
    (ka:Blk w ba 26 #[.int .i64 la,.slice A n c]) (k7:Blk w b7 62 #[.func (.func 51) #[] #[.pointer (some ⟨cb,0,none⟩)]]) (kb:Blk w cb 26 #[.int .i64 lb,.slice B m d]) (e:Int) (he:e.natAbs ≤ 10000000) :
    Calls Tryz.prog 72 #[.int .i64 e,.pointer (some ⟨ba,0,none⟩),.pointer (some ⟨b7,0,none⟩)] w fun r w' => r = .returned (.int .i64 (LP.co (LP.of la xs * LP.of lb ys) e)) ∧ Below w.heap.size w w':=by
  have hl:=ha.il.len
  have HV:Hid (LP.co (LP.of la xs * LP.of lb ys) e = CR.sumN n fun i => xs.getD i 0 * LP.co (LP.of lb ys) (e - la - i)):=hide (by rw [LP.co_of_mul,hl])
  have HLE:Hid (∀ k,k ≤ n → (CR.sumN k fun i => xs.getD i 0 * LP.co (LP.of lb ys) (e - la - i)).natAbs ≤ 200 * 10000000000000000):=hide (fun k hk => Nat.le_trans (LP.natAbs_sumN (D:=10000000000000000) fun i _ => by
    rw [Int.natAbs_mul]
    exact Nat.le_trans (Nat.mul_le_mul (hx i) (hy _)) (by decide)) (Nat.mul_le_mul_right _ (by omega)))
  have HA:=hide ha
  have HB:=hide hb
  have KA:=hide ka
  have K7:=hide k7
  have KB:=hide kb
  have HX:=hide hx
  have HY:=hide hy
  have hq0:=ka.cell 0
  have hq1:=ka.cell 1
  simp at hq0 hq1
  have HW:=hide (Below.refl w.heap.size w)
  clear ha hb ka k7 kb hx hy
  go_enter Tryz.func72,Tryz.ntmps72
  go_wp2_with fail
  clear hq0 hq1
  go_loopw [5,11] (fun sv iv wr => ∃ k:Nat,k ≤ n ∧ iv = .int .i64 k ∧ sv = .int .i64 (CR.sumN k fun i => xs.getD i 0 * LP.co (LP.of lb ys) (e - la - i)) ∧ Below w.heap.size w wr) (fun _ iv _ => n - (intOf iv).toNat)
  case atStart => exact ⟨0,Nat.zero_le _,rfl,rfl,HW.out⟩
  case round =>
    obtain ⟨k,hk,rfl,rfl,hbw⟩:=hrel
    have HBW:=hide hbw
    clear hbw
    by_cases hlt:k < n
    · obtain ⟨ad,hA,hcl⟩:=(HA.out.below HBW.out).il.at_ hlt
      subst hA
      have hbka:=KA.out.below HBW.out KA.out.lt
      have hq0:=hbka.cell 0
      have hq1:=hbka.cell 1
      have hq7:=(K7.out.below HBW.out K7.out.lt).cell 0
      simp at hq0 hq1 hq7
      have HCO:=hide (coeff_any lb B m d ys cb (e - la - k) wr (HB.out.below HBW.out) (KB.out.below HBW.out KB.out.lt) (by omega) (by omega) (by omega))
      have hle:=HLE.out k hk
      have hle2:=HLE.out (k + 1) hlt
      have HS:Hid (CR.sumN (k + 1) (fun i => xs.getD i 0 * LP.co (LP.of lb ys) (e - la - i)) = CR.sumN k (fun i => xs.getD i 0 * LP.co (LP.of lb ys) (e - la - i)) + xs.getD k 0 * LP.co (LP.of lb ys) (e - la - k)):=hide (CR.sumN_succ _ _)
      rw [HS.out] at hle2
      have hx:=HX.out k
      have hy:=HY.out (e - la - k)
      have ec:=eCoeff
      have hwe:IntKind.i64.wrap (e - la) = e - la:=by rw [IntKind.wrap_i64];omega
      have hwe2:IntKind.i64.wrap (e - la - (k:Int)) = e - la - k:=by rw [IntKind.wrap_i64];omega
      clear hbka
      generalize CR.sumN k (fun i => xs.getD i 0 * LP.co (LP.of lb ys) (e - la - i)) = s at *
      generalize LP.co (LP.of lb ys) (e - la - (k:Int)) = y at *
      generalize xs.getD k 0 = x at *
      have hxy:(x * y).natAbs ≤ 10000000000000000:=by
        rw [Int.natAbs_mul]
        exact Nat.le_trans (Nat.mul_le_mul hx hy) (by decide)
      obtain ⟨p,hp⟩:∃ p,x * y = p:=⟨_,rfl⟩
      rw [hp] at hxy hle2 HS
      have hwp:IntKind.i64.wrap (x * y) = p:=by rw [hp,IntKind.wrap_i64];omega
      have hws:IntKind.i64.wrap (s + p) = s + p:=by rw [IntKind.wrap_i64];omega
      clear hx hy hp hle hle2 hxy
      go_wp2_with fail
      refine HCO.out.mono ?_
      rintro r w1 ⟨rfl,hb⟩
      have HB1:=hide (HBW.out.trans (hb.mono HBW.out.size))
      clear hb HBW HCO hq0 hq1 hq7 hcl
      go_wp2_with fail
      go_roundw
      case rel => exact ⟨k + 1,by omega,by go_num,by rw [HS.out],HB1.out⟩
      case measure => simp [intOf];omega
    · have hkn:k = n:=by omega
      have HE:Hid ((CR.sumN k fun i => xs.getD i 0 * LP.co (LP.of lb ys) (e - la - i)) = LP.co (LP.of la xs * LP.of lb ys) e):=hide (by rw [hkn,HV.out])
      rw [HE.out]
      obtain ⟨s,hs⟩:∃ s,LP.co (LP.of la xs * LP.of lb ys) e = s:=⟨_,rfl⟩
      have HS:=hide hs
      rw [hs]
      clear hs HE HV HLE
      go_wp2_with fail
      go_ret
      rw [HS.out]
      exact ⟨rfl,HBW.out⟩
end Go.Proofs.YtndgffiihbdppaaGreatDoor
namespace Go.Proofs.YtndgffiihbdppaaGreatDoor
set_option linter.unusedVariables false
set_option linter.unusedSimpArgs false
open Go.RowKit

theorem LP.co_mul_supp {la lb:Int} {xs ys:List Int} {k:Int} (h:LP.co (LP.of la xs * LP.of lb ys) k ≠ 0):la + lb ≤ k ∧ k < la + lb + ((xs.length + ys.length:Nat):Int):=by
  by_cases hh:la + lb ≤ k ∧ k < la + lb + ((xs.length + ys.length:Nat):Int)
  · exact hh
  · refine absurd ?_ h
    rw [LP.co_of_mul]
    refine CR.sumN_none fun i hi => ?_
    rw [LP.co_of,if_neg (by omega),Int.mul_zero]
theorem LP.getD_pfl {lo:Int} {cs:List Int} (h:LP.pfl lo cs = 0) (j:Nat):(cs.getD j 0).natAbs ≤ 100000000:=by
  by_cases hj:j < cs.length
  · exact (LP.pfl_zero h).2.2.2.2 _ (getD_mem' hj)
  · rw [List.getD_eq_getElem?_getD,List.getElem?_eq_none (by omega)];decide

set_option maxRecDepth 100000 in
set_option maxHeartbeats 8000000 in
theorem lmul_any (la:Int) (A:Option Addr) (n c:Nat) (xs:List Int) (lb:Int) (B:Option Addr) (m d:Nat) (ys:List Int) (w:World) (ha:SL w A n c xs) (hb:SL w B m d ys) :
    Calls Tryz.prog 47 #[PV la A n c,PV lb B m d] w (GivesPE w (LP.mulR la xs lb ys)):=by
  have hla:=ha.il.len
  have hlb:=hb.il.len
  have hbw:Below w.heap.size w (((w.alloc (.cells #[.int .i64 la,.slice A n c] 26)).alloc (.cells #[.int .i64 lb,.slice B m d] 26)).alloc (.cells #[.int .i64 0,.slice none 0 0] 26)):=(((Below.refl _ _).alloc (Nat.le_refl _) _).alloc (by simp) _).alloc (by simp;omega) _
  have hA:=((Blk.new w 26 #[.int .i64 la,.slice A n c]).alloc (.cells #[.int .i64 lb,.slice B m d] 26)).alloc (.cells #[.int .i64 0,.slice none 0 0] 26)
  have hB:=(Blk.new (w.alloc (.cells #[.int .i64 la,.slice A n c] 26)) 26 #[.int .i64 lb,.slice B m d]).alloc (.cells #[.int .i64 0,.slice none 0 0] 26)
  have hR:=Blk.new ((w.alloc (.cells #[.int .i64 la,.slice A n c] 26)).alloc (.cells #[.int .i64 lb,.slice B m d] 26)) 26 #[.int .i64 0,.slice none 0 0]
  simp only [World.size_alloc] at hB hR
  have HA:=hide (ha.below hbw)
  have HB:=hide (hb.below hbw)
  have HW:=hide hbw
  clear ha hb hbw
  have BA:=hide hA
  have BB:=hide hB
  have BR:=hide hR
  clear hA hB hR
  obtain ⟨T,hT⟩:∃ T,LP.mulR la xs lb ys = T:=⟨_,rfl⟩
  have HT:=hide hT
  rw [hT]
  clear hT
  go_enter Tryz.func47,Tryz.ntmps47
  go_upto_region 1 with fail
  obtain ⟨w0,hw0⟩:∃ x,(((w.alloc (.cells #[.int .i64 la,.slice A n c] 26)).alloc (.cells #[.int .i64 lb,.slice B m d] 26)).alloc (.cells #[.int .i64 0,.slice none 0 0] 26)) = x:=⟨_,rfl⟩
  rw [hw0] at HA HB HW BA BB BR ⊢
  clear hw0
  have hq0:=BA.out.cell 0
  have hq1:=BA.out.cell 1
  have hr0:=BB.out.cell 0
  have hr1:=BB.out.cell 1
  simp at hq0 hq1 hr0 hr1
  go_wp2_with fail
  refine (checkBoth_any la A n c xs lb B m d ys _ HA.out HB.out).mono ?_
  rintro e w1 ⟨rfl,hb⟩
  replace HA:=hide (HA.out.below hb)
  replace HB:=hide (HB.out.below hb)
  replace HW:=hide (HW.out.trans (hb.mono HW.out.size))
  replace BA:=hide (BA.out.below hb BA.out.lt)
  replace BB:=hide (BB.out.below hb BB.out.lt)
  replace BR:=hide (BR.out.below hb BR.out.lt)
  clear hb hq0 hq1 hr0 hr1
  obtain ⟨p,hp⟩:∃ p,LP.pfl2 la xs lb ys = p:=⟨_,rfl⟩
  rw [hp]
  have HP:=hide hp
  clear hp
  by_cases hp0:p = 0
  case neg =>
    have HTE:Hid (T = (p,0,[])):=hide (by
      rw [← HT.out,← HP.out]
      have hp2:LP.pfl2 la xs lb ys ≠ 0:=by rw [HP.out];exact hp0
      unfold LP.mulR LP.two2
      unfold LP.pfl2 at hp2 ⊢
      by_cases h:LP.pfl la xs = 0
      · rw [if_pos h,if_pos h] at *;rw [if_neg hp2]
      · rw [if_neg h,if_neg h])
    have hne:(p != 0) = true:=by simpa using hp0
    have hf0:=BR.out.frozen 0
    have hf1:=BR.out.frozen 1
    have hr0:=BR.out.cell 0
    have hr1:=BR.out.cell 1
    simp at hr0 hr1
    have hlt:=BR.out.lt
    clear hp0
    go_wp2_with fail
    refine bodyPost_ret (results_pe rfl _ rfl rfl ((BR.out.set_ 0 (.int .i64 0)).set_ 1 (.slice none 0 0))) rfl ?_
    rw [HTE.out]
    refine ⟨none,0,0,rfl,SL.nil_ _,fun h => absurd h (by omega),?_⟩
    exact (HW.out.setCell (p:=⟨w.heap.size + 1 + 1,0,none⟩) (by show w.heap.size ≤ w.heap.size + 1 + 1;omega) _).setCell (p:=⟨w.heap.size + 1 + 1,1,none⟩) (by show w.heap.size ≤ w.heap.size + 1 + 1;omega) _
  subst hp0
  have hpf:LP.pfl la xs = 0 ∧ LP.pfl lb ys = 0:=by
    have h:=HP.out
    unfold LP.pfl2 at h
    by_cases h1:LP.pfl la xs = 0
    · rw [if_pos h1] at h;exact ⟨h1,h⟩
    · rw [if_neg h1] at h;exact absurd h h1
  have HTE:Hid (T = LP.fit (LP.of la xs * LP.of lb ys)):=hide (by
    rw [← HT.out]
    unfold LP.mulR LP.two2
    rw [if_pos hpf.1,if_pos hpf.2])
  obtain ⟨pa1,pa2,pa3,_,_⟩:=LP.pfl_zero hpf.1
  obtain ⟨pb1,pb2,pb3,_,_⟩:=LP.pfl_zero hpf.2
  have HXA:=hide (LP.getD_pfl hpf.1)
  have HXB:=hide (LP.co_pfl hpf.2)
  have HSU:=hide (fun k => LP.co_mul_supp (la:=la) (lb:=lb) (xs:=xs) (ys:=ys) (k:=k))
  rw [hla,hlb] at HSU
  clear hpf HP HT
  rw [hla] at pa1
  rw [hlb] at pb1
  have hr0:=BB.out.cell 0
  have hr1:=BB.out.cell 1
  simp at hr0 hr1
  go_wp2_with fail
  refine (coefficients_b lb B m d _).mono ?_
  rintro e w2 ⟨cb,rfl,hcb,hkb,hb⟩
  replace HA:=hide (HA.out.below hb)
  replace HB:=hide (HB.out.below hb)
  replace HW:=hide (HW.out.trans (hb.mono HW.out.size))
  replace BA:=hide (BA.out.below hb BA.out.lt)
  replace BB:=hide (BB.out.below hb BB.out.lt)
  replace BR:=hide (BR.out.below hb BR.out.lt)
  have KB:=hide hkb
  clear hb hr0 hr1 hkb
  go_upto_region 5 with fail
  have HB7:Hid (Below w2.heap.size w2 (w2.alloc (.cells #[.func (.func 51) #[] #[.pointer (some ⟨cb,0,none⟩)]] 62))):=hide ((Below.refl _ _).alloc (Nat.le_refl _) _)
  have K7:=hide (Blk.new w2 62 #[.func (.func 51) #[] #[.pointer (some ⟨cb,0,none⟩)]])
  obtain ⟨b7,hb7⟩:∃ b,w2.heap.size = b:=⟨_,rfl⟩
  obtain ⟨wc,hwc⟩:∃ x,w2.alloc (.cells #[.func (.func 51) #[] #[.pointer (some ⟨cb,0,none⟩)]] 62) = x:=⟨_,rfl⟩
  rw [hwc] at HB7 K7 ⊢
  replace HA:=hide (HA.out.below HB7.out)
  replace HB:=hide (HB.out.below HB7.out)
  replace HW:=hide (HW.out.trans (HB7.out.mono HW.out.size))
  replace BA:=hide (BA.out.below HB7.out BA.out.lt)
  replace BB:=hide (BB.out.below HB7.out BB.out.lt)
  replace BR:=hide (BR.out.below HB7.out BR.out.lt)
  replace KB:=hide (KB.out.below HB7.out KB.out.lt)
  rw [hb7] at K7 ⊢
  clear hb7 hwc HB7 hcb
  obtain ⟨lo,hlo⟩:∃ lo,la + lb = lo:=⟨_,rfl⟩
  obtain ⟨N,hN⟩:∃ N:Nat,n + m = N:=⟨_,rfl⟩
  have hN2:N ≤ 100000:=by omega
  have hlo2:lo.natAbs ≤ 100000:=by omega
  have hw1:IntKind.i64.wrap (la + lb) = lo:=by rw [IntKind.wrap_i64];omega
  have hw2:IntKind.i64.wrap (la + n + (lb + m)) = lo + N:=by rw [IntKind.wrap_i64];omega
  rw [hlo,hN] at HSU
  have HCL:Hid (∀ v,Below wc.heap.size wc v → AnsI Tryz.prog 72 [.pointer (some ⟨w.heap.size,0,none⟩),.pointer (some ⟨b7,0,none⟩)] v.heap.size v lo (lo + N) (LP.co (LP.of la xs * LP.of lb ys))):=hide (fun v hv => ⟨eMulX,fun w' hw' e h1 h2 => by
    have hv':Below wc.heap.size wc w':=hv.trans (hw'.mono hv.size)
    exact mulX_any la A n c xs lb B m d ys _ b7 cb w' (HA.out.below hv') (HB.out.below hv') (by omega) pa1 (by omega) pb1 HXA.out HXB.out (BA.out.below hv' BA.out.lt) (K7.out.below hv' K7.out.lt) (KB.out.below hv' KB.out.lt) e (by omega)⟩)
  refine wp_region_noPanic ?_
  have hge:w.heap.size + 1 + 1 ≤ wc.heap.size:=by have:=BR.out.lt;omega
  have hS0:Below wc.heap.size wc wc.drew:=(Below.refl _ _).drew
  refine wp_region_held_drew (S:=fun x => Below (w.heap.size + 1 + 1) wc x) (by kernel_rfl) (hS0.mono hge) (fun hT0 => ?_)
  refine wpAnyH_tk 0 (v:=.pointer (some ⟨w.heap.size,0,none⟩)) rfl (by kernel_rfl) (by kernel_rfl) (by kernel_rfl) (yi rfl fun w' hw' => gives_fld rfl Tryz.underlying26 rfl rfl rfl (fun w => rfl)) hT0 ?_
  go_frame
  refine wpAnyH_tk 1 (v:=.int .i64 la) rfl (by kernel_rfl) (by kernel_rfl) (by kernel_rfl) (yi rfl fun w' hw' => gives_load1 rfl (by kernel_rfl) rfl (by have h:=(BA.out.below hw' (by omega)).cell 0;simpa using h)) hT0 ?_
  go_frame
  refine wpAnyH_tk 2 (v:=.pointer (some ⟨w.heap.size + 1,0,none⟩)) rfl (by kernel_rfl) (by kernel_rfl) (by kernel_rfl) (yi rfl fun w' hw' => gives_fld rfl Tryz.underlying26 rfl rfl rfl (fun w => rfl)) hT0 ?_
  go_frame
  refine wpAnyH_tk 3 (v:=.int .i64 lb) rfl (by kernel_rfl) (by kernel_rfl) (by kernel_rfl) (yi rfl fun w' hw' => gives_load1 rfl (by kernel_rfl) rfl (by have h:=(BB.out.below hw' (by omega)).cell 0;simpa using h)) hT0 ?_
  go_frame
  refine wpAnyH_tk 4 (v:=.int .i64 lo) rfl (by kernel_rfl) (by kernel_rfl) (by kernel_rfl) (yi rfl fun w' hw' => gives_add rfl rfl rfl hw1) hT0 ?_
  go_frame
  refine wpAnyH_tk 5 (v:=PV la A n c) rfl (by kernel_rfl) (by kernel_rfl) (by kernel_rfl) (yi rfl fun x hx => gives_loadRow rfl rfl (BA.out.below hx (by omega)) Tryz.underlying26 (by kernel_rfl) (by kernel_rfl)) hT0 ?_
  go_frame
  refine wpAnyH_tk 7 (v:=PV lb B m d) rfl (by kernel_rfl) (by kernel_rfl) (by kernel_rfl) (yi rfl fun x hx => gives_loadRow rfl rfl (BB.out.below hx (by omega)) Tryz.underlying26 (by kernel_rfl) (by kernel_rfl)) hT0 ?_
  go_frame
  refine wpAnyH_tk 10 (v:=.func (.func 72) #[] #[.pointer (some ⟨w.heap.size,0,none⟩),.pointer (some ⟨b7,0,none⟩)]) rfl (by kernel_rfl) (by kernel_rfl) (by kernel_rfl) (yi rfl fun x hx => gives_makeFunc rfl rfl) hT0 ?_
  go_frame
  refine wpAnyH_1 6 rfl (by kernel_rfl) ?_
  refine wp_call [PV la A n c] rfl rfl eEndOf rfl ((endOf_b la A n c _ (by omega) (by omega)).mono ?_)
  rintro e v1 ⟨rfl,hb⟩
  have hS1:Below wc.heap.size wc v1:=hS0.trans (hb.mono hS0.size)
  have hT1:Below (w.heap.size + 1 + 1) wc v1:=hS1.mono hge
  refine ⟨_,rfl,hT1,?_⟩
  clear hb
  go_frame
  refine wpAnyH_1 8 rfl (by kernel_rfl) ?_
  refine wp_call [PV lb B m d] rfl rfl eEndOf rfl ((endOf_b lb B m d _ (by omega) (by omega)).mono ?_)
  rintro e v2 ⟨rfl,hb⟩
  have hS2:Below wc.heap.size wc v2:=hS1.trans (hb.mono hS1.size)
  have hT2:Below (w.heap.size + 1 + 1) wc v2:=hS2.mono hge
  refine ⟨_,rfl,hT2,?_⟩
  clear hb
  go_frame
  refine wpAnyH_tk 9 (v:=.int .i64 (lo + N)) rfl (by kernel_rfl) (by kernel_rfl) (by kernel_rfl) (yi rfl fun w' hw' => gives_add rfl rfl rfl hw2) hT2 ?_
  go_frame
  refine wpAnyH_1 11 rfl (by kernel_rfl) ?_
  refine wp_call [.int .i64 lo,.int .i64 (lo + N),.func (.func 72) #[] #[.pointer (some ⟨w.heap.size,0,none⟩),.pointer (some ⟨b7,0,none⟩)]] rfl rfl eCollect rfl ((collect_any (caps:=[.pointer (some ⟨w.heap.size,0,none⟩),.pointer (some ⟨b7,0,none⟩)]) lo N (LP.of la xs * LP.of lb ys) v2 (HCL.out v2 hS2) HSU.out hlo2 hN2).mono ?_)
  rintro e v3 ⟨R3,rn,rc,rfl,hsl,hnw,hb⟩
  have hS3:Below wc.heap.size wc v3:=hS2.trans (hb.mono hS2.size)
  have hfar:0 < rn → ∀ ad,R3 = some ad → wc.heap.size ≤ ad.block:=fun h ad e => by have:=hnw h ad e;have:=hS2.size;omega
  have HSL:=hide hsl
  clear hb hnw hsl
  have hT3:Below (w.heap.size + 1 + 1) wc v3:=hS3.mono hge
  refine ⟨_,rfl,hT3,?_⟩
  generalize LP.fit (LP.of la xs * LP.of lb ys) = Z at *
  go_frame
  refine wpAnyH_tk 12 (v:=PV Z.2.1 R3 rn rc) rfl (by kernel_rfl) (by kernel_rfl) (by kernel_rfl) (yi rfl fun w' hw' => gives_extract rfl rfl rfl) hT3 ?_
  go_frame
  refine wpAnyH_tk 13 (v:=.int .i64 Z.1) rfl (by kernel_rfl) (by kernel_rfl) (by kernel_rfl) (yi rfl fun w' hw' => gives_extract rfl rfl rfl) hT3 ?_
  go_frame
  have hbr:=BR.out.below hS3 BR.out.lt
  have hlr:=BR.out.lt
  refine wpAnyH_1 14 rfl (by kernel_rfl) ?_
  have HW9:Below w.heap.size w (v3.setRow (w.heap.size + 1 + 1) #[.int .i64 Z.2.1,.slice R3 rn rc]):=Below.setRow_ (HW.out.trans (hS3.mono HW.out.size)) (by omega) _
  have hT4:Below (w.heap.size + 1 + 1) wc (v3.setRow (w.heap.size + 1 + 1) #[.int .i64 Z.2.1,.slice R3 rn rc]):=Below.setRow_ hT3 (Nat.le_refl _) _
  have HSL9:=HSL.out.setRow_ (b:=w.heap.size + 1 + 1) (fun h ad e => by have:=hfar h ad e;omega) #[.int .i64 Z.2.1,.slice R3 rn rc]
  refine wp_storeRow rfl rfl rfl hbr (by kernel_rfl) rfl (by kernel_rfl) ⟨hT4,?_⟩
  go_frame
  refine wpAnyH_tk 15 (v:=.int .i64 Z.1) rfl (by kernel_rfl) (by kernel_rfl) (by kernel_rfl) (yi rfl fun w' hw' => gives_move (.inr rfl) rfl) hT4 ?_
  go_frame
  refine wpAnyH_done (by kernel_rfl) (noPanic_mk ?_) _
  have hbk9:Blk (v3.setRow (w.heap.size + 1 + 1) #[.int .i64 Z.2.1,.slice R3 rn rc]) (w.heap.size + 1 + 1) 26 #[.int .i64 Z.2.1,.slice R3 rn rc]:=setRow_heap _ _ _ _ _ _ hbr
  have HW10:=hide HW9
  have HSL10:=hide HSL9
  have HBK10:=hide hbk9
  have HFAR:=hide hfar
  clear hS0 hS1 hS2 hS3 hT0 hT1 hT2 hT3 hT4 HW9 HSL9 hbk9 hbr hfar hlo hN hw1 hw2
  generalize v3.setRow (w.heap.size + 1 + 1) #[.int .i64 Z.2.1,.slice R3 rn rc] = v4 at *
  go_wp2_with fail
  refine bodyPost_ret (results_pe rfl _ rfl rfl HBK10.out) rfl ?_
  rw [HTE.out]
  exact ⟨R3,rn,rc,rfl,HSL10.out,fun h ad e => by have:=HFAR.out h ad e;omega,HW10.out⟩
end Go.Proofs.YtndgffiihbdppaaGreatDoor
namespace Go.Proofs.YtndgffiihbdppaaGreatDoor
set_option linter.unusedVariables false
set_option linter.unusedSimpArgs false
open Go.RowKit

theorem LP.sgL_natAbs (A:List Int):(sgL A).natAbs = 1:=by rcases sgL_cases A with h | h <;> rw [h] <;> rfl
theorem LP.co_normC (la:Int) (A:List Int) {k:Int} (h0:0 ≤ k) (h1:k < A.length):co (of 0 (normC A)) k = sgL A * co (of la A) (la + k):=by
  rw [co_of,co_of]
  have hl:(normC A).length = A.length:=by unfold normC;rw [List.length_map]
  rw [if_pos (by rw [hl];omega),if_pos (by omega)]
  unfold normC
  rw [getD_smul,show (k - 0).toNat = (la + k - la).toNat by omega]
theorem LP.normC_cano {la:Int} {A:List Int} (h:pfl la A = 0):Cano 0 (normC A) ∧ pfl 0 (normC A) = 0:=by
  obtain ⟨h1,_,_,hc,h5⟩:=pfl_zero h
  have hl:(normC A).length = A.length:=by unfold normC;rw [List.length_map]
  have hs:=sgL_cases A
  have hC:Cano 0 (normC A):=by
    rcases hc with ⟨h,_⟩ | ⟨h,hf,hla⟩
    · subst h;exact .inl ⟨rfl,rfl⟩
    · refine .inr ⟨fun e => h (by have:=congrArg List.length e;rw [hl] at this;exact List.eq_nil_of_length_eq_zero this),?_,?_⟩
      · unfold normC;rw [getD_smul];rcases hs with e | e <;> rw [e] <;> omega
      · rw [hl];unfold normC;rw [getD_smul];rcases hs with e | e <;> rw [e] <;> omega
  refine ⟨hC,pfl_ok (by rw [hl];exact h1) (by omega) (by omega) hC fun c hm => ?_⟩
  unfold normC at hm
  obtain ⟨x,hx,rfl⟩:=List.mem_map.1 hm
  rw [Int.natAbs_mul,sgL_natAbs,Nat.one_mul]
  exact h5 x hx
theorem LP.fit_normC {la:Int} {A:List Int} (h:pfl la A = 0):fit (of 0 (normC A)) = normR la A:=by
  obtain ⟨hc,hp⟩:=normC_cano h
  have e:=canon_of hc
  unfold normR one1 fit
  rw [if_pos h,e,if_pos hp]

theorem eNormX:∀ args w,(callFunc 31 args).run Tryz.prog w = .ok (.enter 31 args) w:=enters (fn:=Tryz.f31) (by kernel_rfl) (by kernel_rfl) (by kernel_rfl)
set_option maxRecDepth 100000 in
set_option maxHeartbeats 4000000 in
theorem normX_any (la:Int) (A:Option Addr) (n c:Nat) (xs:List Int) (bs b7 ba ca:Nat) (s:Int) (w:World) (ha:SL w A n c xs) (h1:la.natAbs ≤ 1000000) (h2:n ≤ 1000000) (hs:s = 1 ∨ s = -1) (hy:∀ k,(LP.co (LP.of la xs) k).natAbs ≤ 100000000)
    (ks:Blk w bs 3 #[.int .i64 s]) (k7:Blk w b7 62 #[.func (.func 51) #[] #[.pointer (some ⟨ca,0,none⟩)]]) (kb:Blk w ba 26 #[.int .i64 la,.slice A n c]) (ka:Blk w ca 26 #[.int .i64 la,.slice A n c]) (e:Int) (he:e.natAbs ≤ 10000000) :
    Calls Tryz.prog 31 #[.int .i64 e,.pointer (some ⟨bs,0,none⟩),.pointer (some ⟨b7,0,none⟩),.pointer (some ⟨ba,0,none⟩)] w fun r w' => r = .returned (.int .i64 (s * LP.co (LP.of la xs) (la + e))) ∧ Below w.heap.size w w':=by
  have HA:=hide ha
  have KS:=hide ks
  have K7:=hide k7
  have KB:=hide kb
  have KA:=hide ka
  have hw:IntKind.i64.wrap (la + e) = la + e:=by rw [IntKind.wrap_i64];omega
  have hyv:=hy (la + e)
  have hw2:IntKind.i64.wrap (s * LP.co (LP.of la xs) (la + e)) = s * LP.co (LP.of la xs) (la + e):=by
    rw [IntKind.wrap_i64]
    rcases hs with h | h <;> rw [h] <;> omega
  clear ha ks k7 kb ka hy hyv
  go_enter Tryz.func31,Tryz.ntmps31
  go_upto_region 1 with fail
  refine wp_region_noPanic ?_
  refine wp_region_held_drew (S:=fun x => Below w.heap.size w x) (by kernel_rfl) (Below.refl _ _).drew (fun hS0 => ?_)
  refine wpAnyH_tk 0 (v:=.int .i64 s) rfl (by kernel_rfl) (by kernel_rfl) (by kernel_rfl) (yi rfl fun w' hw' => gives_load1 rfl (by kernel_rfl) rfl (by have h:=(KS.out.below hw' KS.out.lt).cell 0;simpa using h)) hS0 ?_
  go_frame
  refine wpAnyH_tk 1 (v:=.func (.func 51) #[] #[.pointer (some ⟨ca,0,none⟩)]) rfl (by kernel_rfl) (by kernel_rfl) (by kernel_rfl) (yi rfl fun w' hw' => gives_load1 rfl (by kernel_rfl) rfl (by have h:=(K7.out.below hw' K7.out.lt).cell 0;simpa using h)) hS0 ?_
  go_frame
  refine wpAnyH_tk 2 (v:=.pointer (some ⟨ba,0,none⟩)) rfl (by kernel_rfl) (by kernel_rfl) (by kernel_rfl) (yi rfl fun w' hw' => gives_fld rfl Tryz.underlying26 rfl rfl rfl (fun w => rfl)) hS0 ?_
  go_frame
  refine wpAnyH_tk 3 (v:=.int .i64 la) rfl (by kernel_rfl) (by kernel_rfl) (by kernel_rfl) (yi rfl fun w' hw' => gives_load1 rfl (by kernel_rfl) rfl (by have h:=(KB.out.below hw' KB.out.lt).cell 0;simpa using h)) hS0 ?_
  go_frame
  refine wpAnyH_tk 4 (v:=.int .i64 e) rfl (by kernel_rfl) (by kernel_rfl) (by kernel_rfl) (yi rfl fun w' hw' => gives_move (.inl rfl) rfl) hS0 ?_
  go_frame
  refine wpAnyH_tk 5 (v:=.int .i64 (la + e)) rfl (by kernel_rfl) (by kernel_rfl) (by kernel_rfl) (yi rfl fun w' hw' => gives_add rfl rfl rfl hw) hS0 ?_
  go_frame
  refine wpAnyH_1 6 rfl (by kernel_rfl) ?_
  refine wp_callV [.int .i64 (la + e)] rfl rfl eCoeff (cap:=[.pointer (some ⟨ca,0,none⟩)]) rfl ((coeff_any la A n c xs ca (la + e) _ (HA.out.below hS0) (KA.out.below hS0 KA.out.lt) h1 h2 (by omega)).mono ?_)
  rintro r v1 ⟨rfl,hb⟩
  have hS1:Below w.heap.size w v1:=hS0.trans (hb.mono hS0.size)
  refine ⟨_,rfl,hS1,?_⟩
  clear hb
  go_frame
  refine wpAnyH_tk 7 (v:=.int .i64 (s * LP.co (LP.of la xs) (la + e))) rfl (by kernel_rfl) (by kernel_rfl) (by kernel_rfl) (yi rfl fun w' hw' => gives_mul rfl rfl rfl hw2) hS1 ?_
  go_frame
  refine wpAnyH_tk 8 (v:=.int .i64 (s * LP.co (LP.of la xs) (la + e))) rfl (by kernel_rfl) (by kernel_rfl) (by kernel_rfl) (yi rfl fun w' hw' => gives_move (.inr rfl) rfl) hS1 ?_
  go_frame
  refine wpAnyH_done (by kernel_rfl) (noPanic_mk ?_) _
  have HS:=hide hS1
  clear hS0 hS1 hw hw2
  obtain ⟨z,hz⟩:∃ z,s * LP.co (LP.of la xs) (la + e) = z:=⟨_,rfl⟩
  have HZ:=hide hz
  rw [hz]
  clear hz
  go_wp2_with fail
  go_ret
  rw [HZ.out]
  exact ⟨rfl,HS.out⟩

theorem collect0_any {fid:FuncId} {caps:List Value} (n:Nat) (z:LP) (w:World) (H:AnsI Tryz.prog fid caps w.heap.size w 0 n (LP.co z)) (hz:∀ k,LP.co z k ≠ 0 → 0 ≤ k ∧ k < n) (hn:n ≤ 100000) :
    Calls Tryz.prog 30 #[.int .i64 0,.int .i64 n,.func (.func fid) #[] caps.toArray] w (GivesPE w (LP.fit z)):=by
  have h:=collect_any (fid:=fid) (caps:=caps) 0 n z w (by rw [Int.zero_add];exact H) (by rw [Int.zero_add];exact hz) (by decide) hn
  rwa [Int.zero_add] at h

set_option maxRecDepth 100000 in
set_option maxHeartbeats 8000000 in
theorem lnorm_any (la:Int) (A:Option Addr) (n c:Nat) (xs:List Int) (w:World) (ha:SL w A n c xs) :
    Calls Tryz.prog 14 #[PV la A n c] w (GivesPE w (LP.normR la xs)):=by
  have hla:=ha.il.len
  have HIN:=hide ha.inside
  have hbw:Below w.heap.size w ((w.alloc (.cells #[.int .i64 la,.slice A n c] 26)).alloc (.cells #[.int .i64 0,.slice none 0 0] 26)):=((Below.refl _ _).alloc (Nat.le_refl _) _).alloc (by simp) _
  have hA:=(Blk.new w 26 #[.int .i64 la,.slice A n c]).alloc (.cells #[.int .i64 0,.slice none 0 0] 26)
  have hR:=Blk.new (w.alloc (.cells #[.int .i64 la,.slice A n c] 26)) 26 #[.int .i64 0,.slice none 0 0]
  simp only [World.size_alloc] at hR
  have HA:=hide (ha.below hbw)
  have HW:=hide hbw
  clear ha hbw
  have BA:=hide hA
  have BR:=hide hR
  clear hA hR
  obtain ⟨T,hT⟩:∃ T,LP.normR la xs = T:=⟨_,rfl⟩
  have HT:=hide hT
  rw [hT]
  clear hT
  go_enter Tryz.func14,Tryz.ntmps14
  go_upto_region 1 with fail
  obtain ⟨w0,hw0⟩:∃ x,((w.alloc (.cells #[.int .i64 la,.slice A n c] 26)).alloc (.cells #[.int .i64 0,.slice none 0 0] 26)) = x:=⟨_,rfl⟩
  rw [hw0] at HA HW BA BR ⊢
  clear hw0
  have hq0:=BA.out.cell 0
  have hq1:=BA.out.cell 1
  simp at hq0 hq1
  go_wp2_with fail
  refine (lcheck_any la A n c xs _ HA.out).mono ?_
  rintro e w1 ⟨rfl,hb⟩
  replace HA:=hide (HA.out.below hb)
  replace HW:=hide (HW.out.trans (hb.mono HW.out.size))
  replace BA:=hide (BA.out.below hb BA.out.lt)
  replace BR:=hide (BR.out.below hb BR.out.lt)
  clear hb hq0 hq1
  obtain ⟨p,hp⟩:∃ p,LP.pfl la xs = p:=⟨_,rfl⟩
  rw [hp]
  have HP:=hide hp
  clear hp
  by_cases hp0:p = 0
  case neg =>
    have HTE:Hid (T = (p,0,[])):=hide (by
      rw [← HT.out,← HP.out]
      unfold LP.normR LP.one1
      rw [if_neg (by rw [HP.out];exact hp0)])
    have hne:(p != 0) = true:=by simpa using hp0
    have hf0:=BR.out.frozen 0
    have hf1:=BR.out.frozen 1
    have hr0:=BR.out.cell 0
    have hr1:=BR.out.cell 1
    simp at hr0 hr1
    have hlt:=BR.out.lt
    clear hp0
    go_wp2_with fail
    refine bodyPost_ret (results_pe rfl _ rfl rfl ((BR.out.set_ 0 (.int .i64 0)).set_ 1 (.slice none 0 0))) rfl ?_
    rw [HTE.out]
    refine ⟨none,0,0,rfl,SL.nil_ _,fun h => absurd h (by omega),?_⟩
    exact (HW.out.setCell (p:=⟨w.heap.size + 1,0,none⟩) (by show w.heap.size ≤ w.heap.size + 1;omega) _).setCell (p:=⟨w.heap.size + 1,1,none⟩) (by show w.heap.size ≤ w.heap.size + 1;omega) _
  subst hp0
  have HTE:Hid (T = LP.fit (LP.of 0 (LP.normC xs))):=hide (by rw [← HT.out,LP.fit_normC HP.out])
  obtain ⟨pa1,pa2,pa3,_,_⟩:=LP.pfl_zero HP.out
  have HYB:=hide (LP.co_pfl HP.out)
  have hsg:=LP.sgL_cases xs
  have HSG:Hid (LP.sgL xs = if n = 0 then 1 else if xs.getD (n - 1) 0 < 0 then -1 else 1):=hide (by
    unfold LP.sgL
    rw [hla]
    by_cases h:n = 0
    · rw [if_pos h,if_neg]
      rw [List.eq_nil_of_length_eq_zero (show xs.length = 0 by omega)]
      simp
    · rw [if_neg h])
  have HCN:Hid (∀ k:Int,0 ≤ k → k < n → LP.co (LP.of 0 (LP.normC xs)) k = LP.sgL xs * LP.co (LP.of la xs) (la + k)):=hide (fun k h0 h1 => LP.co_normC la xs h0 (by rw [hla];exact h1))
  have HSU:Hid (∀ k,LP.co (LP.of 0 (LP.normC xs)) k ≠ 0 → 0 ≤ k ∧ k < n):=hide (fun k hk => by
    have h:=LP.co_of_some hk
    rw [show (LP.normC xs).length = n by unfold LP.normC;rw [List.length_map,hla]] at h
    omega)
  clear HP HT
  rw [hla] at pa1
  obtain ⟨s,hs⟩:∃ s,LP.sgL xs = s:=⟨_,rfl⟩
  rw [hs] at HSG HCN hsg
  clear hs
  go_upto_region 5 with fail
  have HB5:Hid (Below w1.heap.size w1 (w1.alloc (.cells #[.int .i64 1] 3))):=hide ((Below.refl _ _).alloc (Nat.le_refl _) _)
  have KS0:=hide (Blk.new w1 3 #[.int .i64 1])
  obtain ⟨bs,hbs⟩:∃ b,w1.heap.size = b:=⟨_,rfl⟩
  obtain ⟨w2,hw2⟩:∃ x,w1.alloc (.cells #[.int .i64 1] 3) = x:=⟨_,rfl⟩
  rw [hw2] at HB5 KS0 ⊢
  replace HA:=hide (HA.out.below HB5.out)
  replace HW:=hide (HW.out.trans (HB5.out.mono HW.out.size))
  replace BA:=hide (BA.out.below HB5.out BA.out.lt)
  have hlbs:=BR.out.lt
  replace BR:=hide (BR.out.below HB5.out BR.out.lt)
  rw [hbs] at KS0 hlbs ⊢
  clear hbs hw2 HB5
  have hq0:=BA.out.cell 0
  have hq1:=BA.out.cell 1
  have hf0:=BA.out.frozen 1
  simp at hq0 hq1
  go_upto_region 6 with fail
  go_cut [17,18,19,20,21,22,23,24,25,26,27] (fun _ _ _ _ _ _ _ _ _ _ v wx => v = .bool (decide (s = -1)) ∧ w2 = wx)
  case first =>
    by_cases hn:n = 0
    · have hs1:s = 1:=by rw [HSG.out,if_pos hn]
      subst hn hs1
      go_wp2_with fail
      go_meet
      exact ⟨rfl,rfl⟩
    · obtain ⟨ad,hA,hcl⟩:=HA.out.il.at_ (k:=n - 1) (by omega)
      subst hA
      have hs1:=HSG.out
      rw [if_neg hn] at hs1
      obtain ⟨x,hx⟩:∃ x,xs.getD (n - 1) 0 = x:=⟨_,rfl⟩
      rw [hx] at hcl hs1
      have hg:decide ((0:Int) < (n:Int)) = true:=decide_eq_true (by omega)
      have hp2:IntKind.i64.wrap ((n:Int) - 1) = ((n - 1:Nat):Int):=by rw [IntKind.wrap_i64];omega
      obtain ⟨k1,hk1⟩:∃ k,n - 1 = k:=⟨_,rfl⟩
      rw [hk1] at hcl hp2
      have hkn:k1 < n:=by omega
      have hk2:((n:Int) - 1).toNat = k1:=by omega
      clear hx hk1 hn HSG hsg
      by_cases hx0:x < 0
      · rw [if_pos hx0] at hs1
        subst hs1
        go_wp2_with fail
        go_meet
        exact ⟨rfl,rfl⟩
      · rw [if_neg hx0] at hs1
        subst hs1
        go_wp2_with fail
        go_meet
        exact ⟨rfl,rfl⟩
  case rest =>
    obtain ⟨rfl,rfl⟩:=hcut
    clear hq0 hq1 hf0 HSG
    go_upto_if 27 with fail
    go_cut [27] (fun _ wx => Blk wx bs 3 #[.int .i64 s] ∧ SL wx A n c xs ∧ Below bs w2 wx)
    case first =>
      rcases hsg with rfl | rfl
      · go_wp2_with fail
        go_meet
        exact ⟨KS0.out,HA.out,Below.refl _ _⟩
      · have hcs:=KS0.out.cell 0
        have hfs:=KS0.out.frozen 0
        simp at hcs
        have K2:=hide (KS0.out.set_ 0 (.int .i64 (-1)))
        have HA2:=hide (HA.out.setCell (b:=bs) (fun h a e => by have:=HIN.out h a e;omega) 0 (.int .i64 (-1)))
        have HB2:=hide ((Below.refl bs w2).setCell (p:=⟨bs,0,none⟩) (Nat.le_refl bs) (.int .i64 (-1)))
        go_wp2_with fail
        go_meet
        exact ⟨K2.out,HA2.out,HB2.out⟩
    case rest =>
      obtain ⟨ks,ha,hb⟩:=hcut
      replace HA:=hide ha
      have KS:=hide ks
      replace BA:=hide (BA.out.below hb (by omega))
      replace BR:=hide (BR.out.below hb (by omega))
      replace HW:=hide (HW.out.trans (hb.mono (by omega)))
      clear ks ha hb KS0
      have hr0:=BA.out.cell 0
      have hr1:=BA.out.cell 1
      simp at hr0 hr1
      go_wp2_with fail
      refine (coefficients_b la A n c _).mono ?_
      rintro e w2 ⟨ca,rfl,hcb,hkb,hb⟩
      replace HA:=hide (HA.out.below hb)
      replace HW:=hide (HW.out.trans (hb.mono HW.out.size))
      replace BA:=hide (BA.out.below hb BA.out.lt)
      replace BR:=hide (BR.out.below hb BR.out.lt)
      replace KS:=hide (KS.out.below hb KS.out.lt)
      have KA:=hide hkb
      clear hb hr0 hr1 hkb
      go_upto_region 9 with fail
      have HB7:Hid (Below w2.heap.size w2 (w2.alloc (.cells #[.func (.func 51) #[] #[.pointer (some ⟨ca,0,none⟩)]] 62))):=hide ((Below.refl _ _).alloc (Nat.le_refl _) _)
      have K7:=hide (Blk.new w2 62 #[.func (.func 51) #[] #[.pointer (some ⟨ca,0,none⟩)]])
      obtain ⟨b7,hb7⟩:∃ b,w2.heap.size = b:=⟨_,rfl⟩
      obtain ⟨wq,hwq⟩:∃ x,w2.alloc (.cells #[.func (.func 51) #[] #[.pointer (some ⟨ca,0,none⟩)]] 62) = x:=⟨_,rfl⟩
      rw [hwq] at HB7 K7 ⊢
      replace HA:=hide (HA.out.below HB7.out)
      replace HW:=hide (HW.out.trans (HB7.out.mono HW.out.size))
      replace BA:=hide (BA.out.below HB7.out BA.out.lt)
      replace BR:=hide (BR.out.below HB7.out BR.out.lt)
      replace KS:=hide (KS.out.below HB7.out KS.out.lt)
      replace KA:=hide (KA.out.below HB7.out KA.out.lt)
      rw [hb7] at K7 ⊢
      clear hb7 hwq HB7 hcb
      have HCO:=hide (collect0_any (fid:=31) (caps:=[.pointer (some ⟨bs,0,none⟩),.pointer (some ⟨b7,0,none⟩),.pointer (some ⟨w.heap.size,0,none⟩)]) n (LP.of 0 (LP.normC xs)) wq ⟨eNormX,fun w' hw' e h1 h2 => by
        rw [HCN.out e h1 h2]
        exact normX_any la A n c xs bs b7 w.heap.size ca s w' (HA.out.below hw') (by omega) (by omega) hsg HYB.out (KS.out.below hw' KS.out.lt) (K7.out.below hw' K7.out.lt) (BA.out.below hw' BA.out.lt) (KA.out.below hw' KA.out.lt) e (by omega)⟩ HSU.out (by omega))
      rw [← HTE.out] at HCO
      have ec:=eCollect
      have hmf:∀ (fn:Fn) (first cap:Array Value) (w:World),(Instr.makeFunc fn first cap).run Tryz.prog w = .ok (.func fn first cap) w:=fun _ _ _ _ => rfl
      have hr0:=BA.out.cell 0
      have hr1:=BA.out.cell 1
      simp at hr0 hr1
      clear HTE HSU HCN HYB hsg
      go_wp2_with fail
      refine HCO.out.mono ?_
      rintro e w5 ⟨R,rn,rc,rfl,hs,hnw,hb⟩
      have HW1:=hide (HW.out.trans (hb.mono HW.out.size))
      have BR1:=hide (BR.out.below hb BR.out.lt)
      have HFAR:=hide (show 0 < rn → ∀ ad,R = some ad → w.heap.size + 1 < ad.block from fun h ad e => by have:=hnw h ad e;have:=BR.out.lt;omega)
      have HS:=hide hs
      clear hb hnw hs hr0 hr1 HCO HW BR HA BA KS KA K7
      have hf0:=BR1.out.frozen 0
      have hf1:=BR1.out.frozen 1
      have hc0:=BR1.out.cell 0
      have hc1:=BR1.out.cell 1
      simp at hc0 hc1
      have hlt:=BR1.out.lt
      obtain ⟨ze,zl,zc⟩:=T
      go_wp2_with fail
      refine bodyPost_ret (results_pe rfl _ rfl rfl ((BR1.out.set_ 0 (.int .i64 zl)).set_ 1 (.slice R rn rc))) rfl ?_
      refine ⟨R,rn,rc,rfl,?_,fun h ad e => by have:=HFAR.out h ad e;omega,?_⟩
      · exact (HS.out.setCell (fun h ad e => by have:=HFAR.out h ad e;omega) 0 _).setCell (fun h ad e => by have:=HFAR.out h ad e;omega) 1 _
      · exact (HW1.out.setCell (p:=⟨w.heap.size + 1,0,none⟩) (by show w.heap.size ≤ w.heap.size + 1;omega) _).setCell (p:=⟨w.heap.size + 1,1,none⟩) (by show w.heap.size ≤ w.heap.size + 1;omega) _
end Go.Proofs.YtndgffiihbdppaaGreatDoor
