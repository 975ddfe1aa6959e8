/- Several texts in one. -/
import Derived.RangeFuncNested
import Derived.RangeFuncBound
import Derived.RangeFuncCalls
import Derived.RangeFuncLeaves
import Derived.Shelf.Abstract
import Derived.Shelf.RegionOpen
import Derived.WalkKit
import Derived.OwnWalkIn
import Derived.TacticsInMore
import Derived.LoopNIn
import Derived.LoopIn
import Derived.Test.YtndgffiihbdppaaGreatDoorBase1
import Derived.Test.YtndgffiihbdppaaGreatDoorPart1
import Derived.Test.YtndgffiihbdppaaGreatDoorPart15
import Derived.Test.YtndgffiihbdppaaGreatDoorPart17
namespace Go.Proofs.YtndgffiihbdppaaGreatDoor
set_option linter.unusedVariables false
set_option linter.unusedSimpArgs false
open Go.RowKit Go.Shelf
attribute [local go_sem] Oper.semAt_some

/-! ### a region that draws its order, in a round -/
section
variable {P:Program} {l n:Nat} {ops:Array Oper} {Q:Exit → Act → World → Prop} {md:Region.Mode}
end

/-! ### slices.Backward -/
def BackR (V:Nat → Int → Prop) (Bs:Nat) (A:Option Addr) (m c:Nat) (W:World):Prop:=
  W.cell? ⟨Bs,0,none⟩ = some (.slice A m c) ∧ ∀ j,j < m → ∃ ad v,A = some ad ∧ W.cell? (ad.add j) = some (.int .i64 v) ∧ V j v
abbrev BackX (m:Nat):={ p:Nat × Int // p.1 < m }
def BackS {m:Nat} (V:Nat → Int → Prop) (ys:List (BackX m)):Prop:=ys.length ≤ m ∧ ∀ k y,ys[k]? = some y → y.1.1 = m - 1 - k ∧ V (m - 1 - k) y.1.2
theorem BackS.snoc {m:Nat} {V:Nat → Int → Prop} {ys:List (BackX m)} (h:BackS V ys) (hl:ys.length < m) {y:BackX m} (h1:y.1.1 = m - 1 - ys.length) (h2:V (m - 1 - ys.length) y.1.2):BackS V (ys ++ [y]):=
  ⟨by simp;omega,fun k z hz => by
    by_cases hk:k < ys.length
    · rw [List.getElem?_append_left hk] at hz;exact h.2 k z hz
    · rw [List.getElem?_append_right (by omega)] at hz
      have hk2:k = ys.length:=by
        by_cases e:k - ys.length = 0
        · omega
        · rw [List.getElem?_eq_none (by simp;omega)] at hz;cases hz
      subst hk2
      simp at hz
      subst hz
      exact ⟨h1,h2⟩⟩

theorem eBackX:∀ args w,(callFunc 63 args).run Tryz.prog w = .ok (.enter 63 args) w:=enters (fn:=Tryz.f63) (by kernel_rfl) (by kernel_rfl) (by kernel_rfl)

set_option maxRecDepth 100000 in
set_option maxHeartbeats 2000000 in
theorem backF_any (A:Option Addr) (m c:Nat) (w:World) :
    Calls Tryz.prog 37 #[.slice A m c] w fun e w' => e = .returned (.func (.func 63) #[] #[.pointer (some ⟨w.heap.size,0,none⟩)]) ∧ w' = w.alloc (.cells #[.slice A m c] 23):=by
  have hmf:∀ (fn:Fn) (first cap:Array Value) (w:World),(Instr.makeFunc fn first cap).run Tryz.prog w = .ok (.func fn first cap) w:=fun _ _ _ _ => rfl
  go_enter Tryz.func37,Tryz.ntmps37
  go_wp2_with fail
  go_ret
  exact ⟨rfl,rfl⟩

set_option maxRecDepth 100000 in
set_option maxHeartbeats 2000000 in
theorem backX_in (F:Fence) (n:Nat) (hF:F.fn 63) (hro:F.round = none) (hn:1 ≤ n) (l Bs:Nat) (V:Nat → Int → Prop) (A:Option Addr) (m c:Nat) (hm:m ≤ 17592186044416) (J Jx:List (BackX m) → World → Prop)
    (hY:∀ pre x W,J pre W → pre.length < m → YieldAt F (n - 1) Tryz.prog l #[.int .i64 (x.1.1:Int),.int .i64 x.1.2] W fun e W' =>
      (e = .returned (.bool true) ∧ J (pre ++ [x]) W' ∧ (BackR V Bs A m c W → BackR V Bs A m c W')) ∨ (e = .returned (.bool false) ∧ Jx (pre ++ [x]) W'))
    (W:World) (hR:BackR V Bs A m c W) (h0:J [] W) :
    CallsIn F n Tryz.prog 63 #[.func (.yield l) #[] #[],.pointer (some ⟨Bs,0,none⟩)] W fun e W' => (∃ v,e = .returned v) ∧
      ((∃ ys,(ys.length = m ∧ BackS V ys) ∧ J ys W') ∨ (∃ pre,BackS V pre ∧ Jx pre W')):=by
  have hbs:=hR.1
  have HR:=hide hR
  have hw1:IntKind.i64.wrap ((m:Int) - 1) = (m:Int) - 1:=by rw [IntKind.wrap_i64];omega
  clear hR
  refine callsIn_of_wp Tryz.func63 rfl hF ?_ hro
  simp only [Tryz.ntmps63,List.size_toArray,List.length_cons,List.length_nil,Nat.reduceAdd,Nat.reduceSub,Array.replicate_succ,Array.replicate_zero,List.push_toArray,List.append_toArray,List.nil_append,List.cons_append]
  gi_wp2
  gi_loopw [3] (fun iv wr => ∃ (k:Nat) (ys:List (BackX m)),k ≤ m ∧ iv = .int .i64 ((m:Int) - 1 - k) ∧ ys.length = k ∧ BackS V ys ∧ J ys wr ∧ BackR V Bs A m c wr) (fun iv _ => (intOf iv + 1).toNat)
  case atStart => exact ⟨0,[],Nat.zero_le _,by simp,rfl,⟨Nat.zero_le _,fun k y h => by simp at h⟩,h0,HR.out⟩
  case round =>
    obtain ⟨k,ys,hk,rfl,hys,hS,hJ,hR⟩:=hrel
    have hb2:=hR.1
    have HRR:=hide hR
    have HS:=hide hS
    have HJ:=hide hJ
    have HY:=hide hY
    clear hbs hR hS hJ
    by_cases hlt:k < m
    · obtain ⟨i,hi⟩:∃ i:Nat,m - 1 - k = i:=⟨_,rfl⟩
      have hi2:(m:Int) - 1 - k = i:=by omega
      obtain ⟨ad,v,hA,hcell,hV⟩:=HRR.out.2 i (by omega)
      subst hA
      rw [hi2]
      have him:i < m:=by omega
      have hcond:decide ((0:Int) ≤ i) = true:=by simp
      obtain ⟨fn,tmps,assign,body,hy,hRR⟩:=HY.out ys ⟨(i,v),him⟩ wr HJ.out (by omega)
      dsimp only at hy
      have HV:=hide hV
      have HI:=hide hi
      have HI2:=hide hi2
      clear hV hi hi2
      gi_wp2
      refine hRR.mono ?_
      rintro e W3 (⟨rfl,hJ3,hk3⟩ | ⟨rfl,hJx3⟩)
      · have HS3:=hide (HS.out.snoc (y:=⟨(i,v),him⟩) (by omega) (by rw [hys,HI.out]) (by rw [hys,HI.out];exact HV.out))
        have HR3:=hide (hk3 HRR.out)
        have HJ3:=hide hJ3
        clear hk3 hJ3 hb2 hcell
        gi_wp2
        go_roundw
        case rel => exact ⟨k + 1,_,by omega,by have:=HI2.out;simp;omega,by simp;omega,HS3.out,HJ3.out,HR3.out⟩
        case measure => simp [intOf]
      · have HS3:=hide (HS.out.snoc (y:=⟨(i,v),him⟩) (by omega) (by rw [hys,HI.out]) (by rw [hys,HI.out];exact HV.out))
        gi_wp2
        refine bodyPost_ret (results_none rfl _ _ _) rfl ?_
        exact ⟨⟨_,rfl⟩,.inr ⟨_,HS3.out,hJx3⟩⟩
    · obtain rfl:k = m:=by omega
      have hcond:decide ((0:Int) ≤ (k:Int) - 1 - k) = false:=by simp;omega
      gi_wp2
      go_end0
      exact ⟨⟨_,rfl⟩,.inl ⟨ys,⟨hys,HS.out⟩,HJ.out⟩⟩

theorem back_stops (F:Fence) (n:Nat) (hF:F.fn 63) (hro:F.round = none) (hn:1 ≤ n) (Bs:Nat) (V:Nat → Int → Prop) (A:Option Addr) (m c:Nat) (hm:m ≤ 17592186044416) (w:World) (hR:∀ W,Below w.heap.size w W → BackR V Bs A m c W) :
    SeqStopsK F n Tryz.prog 63 #[.pointer (some ⟨Bs,0,none⟩)] (fun x:BackX m => #[Value.int .i64 (x.1.1:Int),Value.int .i64 x.1.2]) (fun W W' => BackR V Bs A m c W → BackR V Bs A m c W') (fun ys => ys.length = m ∧ BackS V ys) (BackS V) m w:=fun l J Jx W hW _ _ hY h0 =>
  backX_in F n hF hro hn l Bs V A m c hm J Jx hY W (hR W hW) h0
theorem backK_b {V:Nat → Int → Prop} {Bs:Nat} {A:Option Addr} {m c:Nat} (W:World) (l:Nat) (o o':Obj) (h:W.heap[l]? = some o) (ho:o.isCells = false):BackR V Bs A m c W → BackR V Bs A m c (W.putObj l o'):=fun hR =>
  have hk:∀ {p:Addr} {v:Value},W.cell? p = some v → (W.putObj l o').cell? p = some v:=fun hc => cell_kept hc (grownBy_putObj' W l o') (fun r e => by cases e;exact ⟨o,h,ho⟩)
  ⟨hk hR.1,fun j hj => by
    obtain ⟨ad,v,h1,h2,h3⟩:=hR.2 j hj
    exact ⟨ad,v,h1,hk h2,h3⟩⟩
theorem BackR.setCell {V:Nat → Int → Prop} {Bs:Nat} {A:Option Addr} {m c:Nat} {W:World} (h:BackR V Bs A m c W) {b:Nat} (hb:Bs ≠ b) (hA:0 < m → ∀ ad,A = some ad → ad.block ≠ b) (i:Nat) (v:Value):BackR V Bs A m c (W.setCell ⟨b,i,none⟩ v):=
  ⟨by rw [← h.1];exact World.cell?_setCell_other (w:=W) (a:=⟨b,i,none⟩) (b:=⟨Bs,0,none⟩) v (by intro e;exact hb (congrArg Addr.block e).symm),
  fun j hj => by
    obtain ⟨ad,u,h1,h2,h3⟩:=h.2 j hj
    refine ⟨ad,u,h1,?_,h3⟩
    rw [← h2]
    exact World.cell?_setCell_other (w:=W) (a:=⟨b,i,none⟩) (b:=ad.add j) v (by intro e2;exact hA (by omega) ad h1 (by have:=congrArg Addr.block e2;rw [block_of_add] at this;exact this.symm))⟩
theorem BackR.ofIL {Bs:Nat} {A:Option Addr} {m c:Nat} {W:World} {xs:List Int} (h1:W.cell? ⟨Bs,0,none⟩ = some (.slice A m c)) (h2:IL W A m xs):BackR (fun j v => v = xs.getD j 0) Bs A m c W:=
  ⟨h1,fun j hj => by
    obtain ⟨ad,e,hc⟩:=h2.at_ hj
    exact ⟨ad,_,e,hc,rfl⟩⟩
end Go.Proofs.YtndgffiihbdppaaGreatDoor
namespace Go.Proofs.YtndgffiihbdppaaGreatDoor
set_option linter.unusedVariables false
set_option linter.unusedSimpArgs false
open Go.RowKit Go.Shelf
attribute [local go_sem] Oper.semAt_some

/-! ### Horner's rule, with the machine's wraps -/
def evW {m:Nat} (x:Int) (ps:List (BackX m)):Int:=ps.foldl (fun s p => wrap64 (wrap64 (s * x) + p.1.2)) 0
theorem evW_snoc {m:Nat} (x:Int) (ps:List (BackX m)) (p:BackX m):evW x (ps ++ [p]) = wrap64 (wrap64 (evW x ps * x) + p.1.2):=by simp [evW]
def hornH (neg:Bool) (xs:List Int) (n k:Nat):Int:=CR.sumN k fun i => xs.getD (n - k + i) 0 * LP.pw neg i
theorem pw_succ (neg:Bool) (x:Int) (hx:x = if neg then -1 else 1) (i:Nat):LP.pw neg ((i + 1:Nat):Int) = LP.pw neg i * x:=by
  subst hx
  unfold LP.pw
  cases neg
  · simp
  · simp only [true_and,if_true]
    by_cases h:(i:Int) % 2 ≠ 0
    · rw [if_pos h,if_neg (by omega)];rfl
    · rw [if_neg h,if_pos (by omega)];rfl
theorem hornH_succ (neg:Bool) (x:Int) (hx:x = if neg then -1 else 1) (xs:List Int) {n k:Nat} (hk:k < n):hornH neg xs n (k + 1) = hornH neg xs n k * x + xs.getD (n - 1 - k) 0:=by
  unfold hornH
  rw [CR.sumN_first,Int.add_comm]
  have h0:LP.pw neg ((0:Nat):Int) = 1:=by unfold LP.pw;simp
  rw [h0,Int.mul_one,show n - (k + 1) + 0 = n - 1 - k by omega]
  congr 1
  rw [Int.mul_comm,← CR.sumN_mul]
  refine CR.sumN_congr fun i hi => ?_
  rw [pw_succ neg x hx,show n - (k + 1) + (i + 1) = n - k + i by omega]
  show _ = x * _
  rw [← Int.mul_assoc,Int.mul_comm]
theorem hornH_le (neg:Bool) {xs:List Int} (h:∀ j,(xs.getD j 0).natAbs ≤ 100000000) (n k:Nat):(hornH neg xs n k).natAbs ≤ k * 100000000:=by
  unfold hornH
  refine LP.natAbs_sumN fun i _ => ?_
  rw [Int.natAbs_mul]
  have:=h (n - k + i)
  rcases LP.pw_cases neg i with e | e <;> rw [e] <;> simpa using this
theorem hornH_all (neg:Bool) (la:Int) (xs:List Int):LP.ev neg (LP.of la xs) = LP.pw neg la * hornH neg xs xs.length xs.length:=by
  unfold LP.ev hornH
  rw [LP.lin_of,← CR.sumN_mul]
  refine CR.sumN_congr fun i _ => ?_
  rw [LP.pw_add,show xs.length - xs.length + i = i by omega]
  show _ = LP.pw neg la * _
  rw [← Int.mul_assoc,← Int.mul_assoc,Int.mul_comm (LP.pw neg la)]
theorem evW_horn {n:Nat} (neg:Bool) (x:Int) (hx:x = if neg then -1 else 1) {xs:List Int} (hb:∀ j,(xs.getD j 0).natAbs ≤ 100000000) (hn:n ≤ 200) {ys:List (BackX n)} (hS:BackS (fun j v => v = xs.getD j 0) ys):∀ k,k ≤ ys.length → evW x (ys.take k) = hornH neg xs n k
  | 0,_ => by rw [List.take_zero];rfl
  | k + 1,hk => by
    have hlt:k < ys.length:=hk
    have h1:=evW_horn neg x hx hb hn hS k (by omega)
    obtain ⟨_,h2⟩:=hS.2 k ys[k] (List.getElem?_eq_getElem hlt)
    have hl:=hS.1
    rw [List.take_succ_eq_append_getElem hlt,evW_snoc,h1,h2,hornH_succ neg x hx xs (by omega)]
    have h3:=hornH_le neg hb n k
    have h4:=hb (n - 1 - k)
    have h5:(hornH neg xs n k * x).natAbs ≤ 20000000000:=by
      rw [Int.natAbs_mul]
      have:x.natAbs = 1:=by rw [hx];cases neg <;> rfl
      rw [this,Nat.mul_one]
      exact Nat.le_trans h3 (by have:=Nat.mul_le_mul_right 100000000 (show k ≤ 200 by omega);omega)
    generalize hornH neg xs n k * x = a at *
    generalize xs.getD (n - 1 - k) 0 = b at *
    unfold wrap64
    omega

theorem results_tt {fn:Func} {t u:Tmp} {v e:Value} {w:World} (h:fn.results = #[.tmp t,.tmp u]) (tmps:Array Value) (ht:tmps.getD t undef = v) (hu:tmps.getD u undef = e):(results fn tmps).run Tryz.prog w = .ok (.tuple #[v,e]) w:=by
  have ht2:tmps[t]?.getD undef = v:=by simpa using ht
  have hu2:tmps[u]?.getD undef = e:=by simpa using hu
  simp [results,h,ht2,hu2,go_sem,Result.andThen]

set_option maxRecDepth 100000 in
set_option maxHeartbeats 8000000 in
theorem leval_any (la:Int) (A:Option Addr) (n c:Nat) (xs:List Int) (x:Int) (w:World) (ha:SL w A n c xs) (hwa:(Lit.int .i64 la).wf = true) (hwx:(Lit.int .i64 x).wf = true) :
    Calls Tryz.prog 18 #[PV la A n c,.int .i64 x] w fun e w' => e = .returned (.tuple #[.int .i64 (LP.evalV la xs x),.int .i64 (LP.evalE la xs x)]) ∧ Below w.heap.size w w':=by
  have hla:=ha.il.len
  have hns:=ha.il.small
  have HIN:=hide ha.inside
  have hbw:Below w.heap.size w ((w.alloc (.cells #[.int .i64 la,.slice A n c] 26)).alloc (.cells #[.int .i64 x] 3)):=((Below.refl _ _).alloc (Nat.le_refl _) _).alloc (by simp) _
  have hA:=(Blk.new w 26 #[.int .i64 la,.slice A n c]).alloc (.cells #[.int .i64 x] 3)
  have hX:=Blk.new (w.alloc (.cells #[.int .i64 la,.slice A n c] 26)) 3 #[.int .i64 x]
  simp only [World.size_alloc] at hX
  have HA:=hide (ha.below hbw)
  have HW:=hide hbw
  clear ha hbw
  have BA:=hide hA
  have BX:=hide hX
  clear hA hX
  obtain ⟨VV,hV⟩:∃ V,LP.evalV la xs x = V:=⟨_,rfl⟩
  obtain ⟨EE,hE⟩:∃ E,LP.evalE la xs x = E:=⟨_,rfl⟩
  have HV:=hide hV
  have HE:=hide hE
  rw [hV,hE]
  clear hV hE
  refine (callsIn_wide (n:=9)).1 (callsIn_of_wp_marks Tryz.func18 rfl trivial ?_ rfl)
  simp only [Tryz.ntmps18,List.size_toArray,List.length_cons,List.length_nil,Nat.reduceAdd,Nat.reduceSub,Array.replicate_succ,Array.replicate_zero,List.push_toArray,List.append_toArray,List.nil_append,List.cons_append]
  refine wpIn_wide.2 ?_
  go_upto_region 1 with fail
  obtain ⟨w0,hw0⟩:∃ x2,((w.alloc (.cells #[.int .i64 la,.slice A n c] 26)).alloc (.cells #[.int .i64 x] 3)) = x2:=⟨_,rfl⟩
  rw [hw0] at HA HW BA BX ⊢
  clear hw0
  have hq0:=BA.out.cell 0
  have hq1:=BA.out.cell 1
  simp at hq0 hq1
  go_wp2_with fail
  refine (lcheck_any la A n c xs _ HA.out).mono ?_
  rintro e w1 ⟨rfl,hb⟩
  replace HA:=hide (HA.out.below hb)
  replace HW:=hide (HW.out.trans (hb.mono HW.out.size))
  replace BA:=hide (BA.out.below hb BA.out.lt)
  replace BX:=hide (BX.out.below hb BX.out.lt)
  clear hb hq0 hq1
  obtain ⟨p,hp⟩:∃ p,LP.pfl la xs = p:=⟨_,rfl⟩
  rw [hp]
  have HP:=hide hp
  clear hp
  by_cases hp0:p = 0
  case neg =>
    have HEE:Hid (EE = p):=hide (by rw [← HE.out];unfold LP.evalE;rw [HP.out,if_neg hp0])
    have HVV:Hid (VV = 0):=hide (by rw [← HV.out];unfold LP.evalV;rw [HE.out,HEE.out,if_neg hp0])
    have hne:(p != 0) = true:=by simpa using hp0
    go_wp2_with fail
    refine ⟨_,results_tt rfl _ rfl rfl,?_⟩
    rw [HEE.out,HVV.out]
    exact ⟨rfl,HW.out⟩
  subst hp0
  by_cases hx1:x = 1 ∨ x = -1
  case neg =>
    have HEE:Hid (EE = 1):=hide (by rw [← HE.out];unfold LP.evalE;rw [if_pos HP.out,if_neg hx1])
    have HVV:Hid (VV = 0):=hide (by rw [← HV.out];unfold LP.evalV;rw [HE.out,HEE.out];rfl)
    have h1:(x != 1) = true:=by simp;omega
    have h2:(x != -1) = true:=by simp;omega
    have hqx:=BX.out.cell 0
    simp at hqx
    clear hx1
    go_wp2_with fail
    refine ⟨_,results_tt rfl _ rfl rfl,?_⟩
    rw [HEE.out,HVV.out]
    exact ⟨rfl,HW.out⟩
  have HEE:Hid (EE = 0):=hide (by rw [← HE.out];unfold LP.evalE;rw [if_pos HP.out,if_pos hx1])
  obtain ⟨pa1,pa2,pa3,_,pa5⟩:=LP.pfl_zero HP.out
  rw [hla] at pa1
  obtain ⟨neg,hneg⟩:∃ neg:Bool,x = if neg then -1 else 1:=by
    rcases hx1 with h | h
    · exact ⟨false,h⟩
    · exact ⟨true,h⟩
  have HNEG:=hide hneg
  have HXB:Hid (∀ j,(xs.getD j 0).natAbs ≤ 100000000):=hide (fun j => by
    by_cases hj:j < xs.length
    · exact pa5 _ (LP.getD_mem' hj)
    · rw [List.getD_eq_getElem?_getD,List.getElem?_eq_none (by omega)];decide)
  have HVE:Hid (VV = LP.pw neg la * hornH neg xs n n):=hide (by
    rw [← HV.out]
    unfold LP.evalV
    rw [HE.out,HEE.out,if_pos rfl]
    have hd:decide (x = -1) = neg:=by rw [hneg];cases neg <;> rfl
    rw [hd,hornH_all,hla])
  have hqx:=BX.out.cell 0
  have hq0:=BA.out.cell 0
  have hq1:=BA.out.cell 1
  simp at hqx hq0 hq1
  clear HP HE HV pa5 hneg hwa hwx
  go_upto_region 4 with fail
  go_cut [15,16,17,18,19,20] from 15 to 20 (fun _ _ _ _ _ v wx => v = .bool false ∧ w1 = wx)
  case first =>
    rcases hx1 with rfl | rfl
    · go_wp2_with fail
      go_meet
      exact ⟨rfl,rfl⟩
    · go_wp2_with fail
      go_meet
      exact ⟨rfl,rfl⟩
  case rest =>
    obtain ⟨rfl,rfl⟩:=hcut
    clear hx1
    go_upto_region 7 with fail
    have HB5:Hid (Below w1.heap.size w1 (w1.alloc (.cells #[.int .i64 0] 3))):=hide ((Below.refl _ _).alloc (Nat.le_refl _) _)
    have KV0:=hide (Blk.new w1 3 #[.int .i64 0])
    obtain ⟨bv,hbv⟩:∃ b,w1.heap.size = b:=⟨_,rfl⟩
    have hlbv:w.heap.size + 1 < bv:=by have:=BX.out.lt;omega
    obtain ⟨w2,hw2⟩:∃ x,w1.alloc (.cells #[.int .i64 0] 3) = x:=⟨_,rfl⟩
    rw [hw2] at HB5 KV0 ⊢
    replace HA:=hide (HA.out.below HB5.out)
    replace HW:=hide (HW.out.trans (HB5.out.mono HW.out.size))
    replace BA:=hide (BA.out.below HB5.out BA.out.lt)
    replace BX:=hide (BX.out.below HB5.out BX.out.lt)
    rw [hbv] at KV0 ⊢
    clear hbv hw2 HB5 hqx hq0 hq1
    have hq0:=BA.out.cell 0
    have hq1:=BA.out.cell 1
    simp at hq0 hq1
    go_wp2_with fail
    refine (backF_any A n c _).mono ?_
    rintro e w3 ⟨rfl,rfl⟩
    clear hq0 hq1
    go_wp2_with fail
    have HBB:Hid (Below w2.heap.size w2 (w2.alloc (.cells #[.slice A n c] 23))):=hide ((Below.refl _ _).alloc (Nat.le_refl _) _)
    have KB0:=hide (Blk.new w2 23 #[.slice A n c])
    obtain ⟨bb,hbb⟩:∃ b,w2.heap.size = b:=⟨_,rfl⟩
    have hlbb:bv < bb:=by have:=KV0.out.lt;omega
    obtain ⟨w3,hw3⟩:∃ x,w2.alloc (.cells #[.slice A n c] 23) = x:=⟨_,rfl⟩
    rw [hw3] at HBB KB0 ⊢
    replace HA:=hide (HA.out.below HBB.out)
    replace HW:=hide (HW.out.trans (HBB.out.mono HW.out.size))
    replace BA:=hide (BA.out.below HBB.out BA.out.lt)
    replace BX:=hide (BX.out.below HBB.out BX.out.lt)
    replace KV0:=hide (KV0.out.below HBB.out KV0.out.lt)
    rw [hbb] at KB0 ⊢
    clear hbb hw3 HBB
    have hl3:bb < w3.heap.size:=KB0.out.lt
    have hcv0:=KV0.out.cell 0
    simp at hcv0
    refine (wpIn_wide (n:=9)).1 (wpIn_rangeFunc_ownG rfl (by decide) (gf:=63) (lb:=#[.pointer (some ⟨bb,0,none⟩)]) rfl trivial eBackX
      (back_stops Fence.wide (9 - 1) trivial rfl (by decide) bb (fun j v => v = xs.getD j 0) A n c hns w3 (fun W hW => BackR.ofIL (by have h:=(KB0.out.below hW KB0.out.lt).cell 0;simpa using h) (HA.out.below hW).il))
      (fun h k hr => k (h hr)) (fun W l o o' _ h ho _ => backK_b W l o o' h ho) (Below.refl _ _) (fun _ => rfl)
      (fun pre W => (W.cell? ⟨bv,0,none⟩ = some (.int .i64 (evW x pre)) ∧ W.frozen? ⟨bv,0,none⟩ = false) ∧ Below bv w3 W)
      (fun _ _ _ => False)
      (OwnFrom.and (Own.from (fun s A B row hs hg hr => ⟨cell_kept hs.1 hg hr,(frozen_kept hs.1 hg hr).trans hs.2⟩) _) (ownFrom_below (by omega) (by omega)))
      (fun _ _ _ _ _ hs _ _ => hs)
      ⟨⟨hcv0,KV0.out.frozen 0⟩,Below.refl _ _⟩
      (fun p => { tmps:=#[PV la A n c,Value.int IntKind.i64 x,Value.pointer (some { block:=w.heap.size,off:=0 }),
          Value.pointer (some { block:=w.heap.size + 1,off:=0 }),Value.int IntKind.i64 0,Value.int IntKind.i64 0,
          Value.int IntKind.i64 0,Value.pointer (some { block:=bv,off:=0 }),undef,Value.int IntKind.i64 p.1.2,
          Value.agg #[Value.int IntKind.i64 la,Value.slice A n c],Value.int IntKind.i64 0,Value.int IntKind.i64 0,
          Value.bool false,undef,u15,u16,u17,u18,u19,Value.bool false,
          Value.pointer (some { block:=w.heap.size,off:=1 }),Value.slice A n c,
          Value.func (Fn.func 63) #[] #[Value.pointer (some { block:=bb,off:=0 })],Value.int IntKind.i64 p.1.1,Value.int IntKind.i64 p.1.2,undef,
          undef,undef,undef,undef,undef,undef,undef,undef,undef,undef,undef,undef],defers:=[] }) ?assign ?body ?done ?stop)
    case assign =>
      intro l p W K hK
      gi_wp2
      exact hK
    case body =>
      rintro l pre p W ⟨⟨hc,hf⟩,hB⟩ _
      have hqx:=(BX.out.below hB (by omega)).cell 0
      simp at hqx
      have HB:=hide hB
      have HC:=hide hc
      have HF:=hide hf
      clear hB
      gi_wp2
      exact ⟨(KeepsOthers.setCell _ _ _).from _,fun hr => hr.setCell (by omega) (fun h ad e => by have:=HIN.out h ad e;omega) 0 _,⟨by rw [evW_snoc];exact World.cell?_setCell_same' _ _ _ (by rw [HC.out];rfl),by rw [World.frozen?_setCell];exact HF.out⟩,HB.out.setCell (p:=⟨bv,0,none⟩) (Nat.le_refl _) _⟩
    case done =>
      rintro D ys W hD ⟨hlen,hS⟩ ⟨⟨hc,hf⟩,hB⟩ hK
      have hev:evW x ys = hornH neg xs n n:=by
        have h:=evW_horn neg x HNEG.out HXB.out pa1 hS ys.length (Nat.le_refl _)
        rw [List.take_length,hlen] at h
        exact h
      rw [hev] at hc
      have hle:=hornH_le neg HXB.out n n
      have HB:=hide hB
      have HK:=hide hK
      have hq0:=(BA.out.below hB (by omega)).cell 0
      have hqx:=(BX.out.below hB (by omega)).cell 0
      simp at hq0 hqx
      obtain ⟨s,hs⟩:∃ s,hornH neg xs n n = s:=⟨_,rfl⟩
      rw [hs] at hc hle HVE
      have hsl:s.natAbs ≤ 20000000000:=Nat.le_trans hle (by have:=Nat.mul_le_mul_right 100000000 pa1;omega)
      have hxa:x.natAbs = 1:=by rw [HNEG.out];cases neg <;> rfl
      have hsx:(s * x).natAbs ≤ 20000000000:=by rw [Int.natAbs_mul,hxa,Nat.mul_one];exact hsl
      have hwsx:IntKind.i64.wrap (s * x) = s * x:=by rw [IntKind.wrap_i64];generalize s * x = t at *;omega
      have hDb:bv < D:=by omega
      clear hev hs hle hlen hS hB hK hsx
      by_cases hev:la.tmod 2 = 0
      · have HR:Hid (VV = s):=hide (by
          rw [HVE.out]
          have h2:la % 2 = 0:=by
            have:=(Int.dvd_iff_tmod_eq_zero (a:=2) (b:=la)).2 hev
            omega
          have:LP.pw neg la = 1:=by unfold LP.pw;rw [if_neg];rintro ⟨_,h⟩;exact h h2
          rw [this,Int.one_mul])
        have hne:(la.tmod 2 != 0) = false:=by simpa using hev
        clear HVE
        go_wp2_with fail
        refine ⟨by simp,.inl ⟨_,_,rfl,run_takeDeferred HK.out,?_⟩⟩
        refine ⟨_,results_tt rfl _ rfl rfl,?_⟩
        rw [HEE.out,HR.out]
        exact ⟨rfl,(HW.out.trans (HB.out.mono (by omega))).trans (belowK_b (w:=w) (Nat.le_refl _) W D _ _ (by omega) HK.out rfl rfl)⟩
      · have HR:Hid (VV = s * x):=hide (by
          rw [HVE.out]
          have h2:la % 2 ≠ 0:=fun h => hev ((Int.dvd_iff_tmod_eq_zero (a:=2) (b:=la)).1 (by omega))
          have:LP.pw neg la = x:=by
            rw [HNEG.out]
            unfold LP.pw
            cases neg
            · simp
            · rw [if_pos ⟨rfl,h2⟩];rfl
          rw [this,Int.mul_comm])
        have hne:(la.tmod 2 != 0) = true:=by simpa using hev
        have hK2:=hide ((KeepsOthers.setCell W ⟨bv,0,none⟩ (.int .i64 (s * x))).same D _ HK.out rfl)
        have hB2:=hide (HB.out.setCell (p:=⟨bv,0,none⟩) (Nat.le_refl _) (.int .i64 (s * x)))
        clear HVE hev
        go_wp2_with fail
        refine ⟨by simp,.inl ⟨_,_,rfl,run_takeDeferred hK2.out,?_⟩⟩
        refine ⟨_,results_tt rfl _ rfl rfl,?_⟩
        rw [HEE.out,HR.out]
        exact ⟨rfl,(HW.out.trans (hB2.out.mono (by omega))).trans (belowK_b (w:=w) (Nat.le_refl _) _ D _ _ (by omega) hK2.out rfl rfl)⟩
    case stop =>
      rintro D c pre W _ _ h _
      exact h.elim
end Go.Proofs.YtndgffiihbdppaaGreatDoor
namespace Go.Proofs.YtndgffiihbdppaaGreatDoor
theorem polyC:PolyC where
  check la A n c xs w ha _ := lcheck_any la A n c xs w ha -- 28
  add la A n c xs lb B m d ys w ha hb _ _ := ladd_any la A n c xs lb B m d ys w ha hb -- 33
  sub la A n c xs lb B m d ys w ha hb _ _ := lsub_any la A n c xs lb B m d ys w ha hb -- 34
  mul la A n c xs lb B m d ys w ha hb _ _ := lmul_any la A n c xs lb B m d ys w ha hb -- 47
  eval la A n c xs x w ha hla hx := leval_any la A n c xs x w ha hla hx -- 18
  norm la A n c xs w ha _ := lnorm_any la A n c xs w ha -- 14
end Go.Proofs.YtndgffiihbdppaaGreatDoor
