/- Several texts in one. -/
import Derived.Test.YtbedpgcbfbjgiaaGreatDoorPart28
import Derived.Test.YtbedpgcbfbjgiaaGreatDoorPart23
import Derived.Test.YtbedpgcbfbjgiaaGreatDoorPart15
import Derived.Test.YtbedpgcbfbjgiaaGreatDoorPart1
import Derived.Test.YtbedpgcbfbjgiaaGreatDoorBase1
import Derived.Test.YtbedpgcbfbjgiaaGreatDoorPart4
import Derived.Test.YtbedpgcbfbjgiaaGreatDoorPart3
import Derived.Test.YtbedpgcbfbjgiaaGreatDoorPart2
import Derived.Test.YtbedpgcbfbjgiaaGreatDoorPart9
import Derived.Deep.DeepCutAuto
namespace Go.Proofs.YtbedpgcbfbjgiaaGreatDoor
set_option linter.unusedVariables false
set_option linter.unusedSimpArgs false
open CR

theorem norm_last {lo:Int} {L:List Int} (h:LP.Cano lo L) (hn:LP.normC L ≠ []):0 < (LP.normC L).getD ((LP.normC L).length - 1) 0:=by
  have hL:L ≠ []:=fun e => hn (by rw [e];rfl)
  have hl:0 < L.length:=List.length_pos_iff.2 hL
  rcases h with h | ⟨_,_,h⟩
  · exact absurd h.1 hL
  · have e:(LP.normC L).getD ((LP.normC L).length - 1) 0 = LP.sgL L * L.getD (L.length - 1) 0:=by
      unfold LP.normC
      rw [List.length_map]
      simp [List.getD,show L.length - 1 < L.length by omega]
    rw [e]
    unfold LP.sgL
    split <;> omega
theorem norm_pos {C:List Int} (h:C ≠ [] → 0 < C.getD (C.length - 1) 0):LP.normC C = C:=by
  by_cases hC:C = []
  · rw [hC];rfl
  · have:=h hC
    unfold LP.normC
    have e:LP.sgL C = 1:=by unfold LP.sgL;rw [if_neg (by omega)]
    rw [e]
    conv => rhs;rw [← List.map_id C]
    exact List.map_congr_left fun c _ => by show 1 * c = c;omega
theorem pos_mul {x y:LP} {A B:List Int} (hx:LP.canon x = (0,A)) (hy:LP.canon y = (0,B)) (nA:A ≠ [] → 0 < A.getD (A.length - 1) 0) (nB:B ≠ [] → 0 < B.getD (B.length - 1) 0) :
    LP.canon (x * y) = (0,LP.normC (LP.canon (x * y)).2):=by
  have ex:LP.of 0 A = x:=by have:=LP.of_canon x;rwa [hx] at this
  have ey:LP.of 0 B = y:=by have:=LP.of_canon y;rwa [hy] at this
  have cx:LP.Cano 0 A:=by have:=LP.canon_cano x;rwa [hx] at this
  have cy:LP.Cano 0 B:=by have:=LP.canon_cano y;rwa [hy] at this
  have hzero:x * y = 0 → LP.canon (x * y) = (0,LP.normC (LP.canon (x * y)).2):=fun h => by rw [h,canon_zero'];rfl
  by_cases a0:A = []
  · refine hzero ?_
    rw [← ex,a0,show LP.of 0 [] = (0:LP) from rfl,zero_mul]
  by_cases b0:B = []
  · refine hzero ?_
    rw [← ey,b0,show LP.of 0 [] = (0:LP) from rfl,mul_zero]
  have hc:=LP.canon_mul cx cy a0 b0
  have hAl:0 < A.length:=List.length_pos_iff.2 a0
  have hBl:0 < B.length:=List.length_pos_iff.2 b0
  have ht:=LP.co_top (A:=A) (B:=B) (la:=0) (lb:=0) (m:=A.length - 1) (by omega) hBl
  rw [List.take_of_length_le (by omega)] at ht
  rw [ex,ey] at hc ht
  obtain ⟨lo,C,hC⟩:∃ lo C,LP.canon (x * y) = (lo,C):=⟨_,_,rfl⟩
  have e3:LP.of lo C = x * y:=by have:=LP.of_canon (x * y);rwa [hC] at this
  rw [hC] at hc ⊢
  dsimp only at hc ⊢
  obtain ⟨rfl,hlen⟩:=hc
  have h4:=LP.co_of_at (lo:=(0 + 0:Int)) (cs:=C) (show C.length - 1 < C.length by omega)
  rw [e3,show (0 + 0:Int) + ((C.length - 1:Nat):Int) = 0 + ((A.length - 1:Nat):Int) + (0 + (B.length:Int) - 1) by omega,ht] at h4
  have hp:0 < C.getD (C.length - 1) 0:=by rw [← h4];exact Int.mul_pos (nA a0) (nB b0)
  rw [norm_pos fun _ => hp]
  rfl
theorem sums_alex {T S:Nat} (t1:1 ≤ T) (t2:T ≤ 2) (s1:1 ≤ S) (s2:S ≤ 2) {xs ys:List Int} (hx:okB (T + 1) xs) (hy:okB (S + 1) ys) (lx:xs.length ≤ 6) (ly:ys.length ≤ 6) :
    alE ((T:Int) + 1) xs = 0 ∧ alE ((S:Int) + 1) ys = 0 ∧ alE ((T:Int) + S + 1) (xs ++ shW T ys) = 0 ∧ alE ((T:Int) + S + 2) (xs ++ shW (T + 1) ys) = 0 ∧ alP ((T:Int) + S + 2) (xs ++ shW (T + 1) ys) = [] ∧
    ∃ a b c:LP,a * b = c ∧ LP.Rt a ∧ LP.Rt b ∧ LP.Rt c ∧ LP.canon a = (0,alP ((T:Int) + 1) xs) ∧ LP.canon b = (0,alP ((S:Int) + 1) ys) ∧ LP.canon c = (0,alP ((T:Int) + S + 1) (xs ++ shW T ys)):=by
  have hw1:okB (T + S + 1) (xs ++ shW T ys):=fun z hz => by
    rcases List.mem_append.1 hz with h | h
    · have:=hx z h;exact ⟨this.1,by omega⟩
    · exact okB_shW hy z h
  have hw2:okB (T + S + 2) (xs ++ shW (T + 1) ys):=fun z hz => by
    rcases List.mem_append.1 hz with h | h
    · have:=hx z h;exact ⟨this.1,by omega⟩
    · have:=okB_shW (s:=T + 1) hy z h;exact ⟨this.1,by omega⟩
  have l1:(xs ++ shW T ys).length ≤ 12:=by simp [shW];omega
  have l2:(xs ++ shW (T + 1) ys).length ≤ 12:=by simp [shW];omega
  have b1:bfault ((T + 1:Nat):Int) xs = 0:=bfault_ok (by omega) (by omega) (by omega) fun y h => by have:=hx y h;omega
  have b2:bfault ((S + 1:Nat):Int) ys = 0:=bfault_ok (by omega) (by omega) (by omega) fun y h => by have:=hy y h;omega
  have b3:bfault ((T + S + 1:Nat):Int) (xs ++ shW T ys) = 0:=bfault_ok (by omega) (by omega) (by omega) fun y h => by have:=hw1 y h;omega
  have b4:bfault ((T + S + 2:Nat):Int) (xs ++ shW (T + 1) ys) = 0:=bfault_ok (by omega) (by omega) (by omega) fun y h => by have:=hw2 y h;omega
  have e1:=alE_ok b1 (show xs.length ≤ 20 by omega)
  have e2:=alE_ok b2 (show ys.length ≤ 20 by omega)
  have e3:=alE_ok b3 (show (xs ++ shW T ys).length ≤ 20 by omega)
  have e4:=alE_ok b4 (show (xs ++ shW (T + 1) ys).length ≤ 20 by omega)
  have p1:alP ((T + 1:Nat):Int) xs = LP.normC (LP.canon (adet (T + 1) xs)).2:=by unfold alP;rw [if_pos e1,Int.toNat_natCast]
  have p2:alP ((S + 1:Nat):Int) ys = LP.normC (LP.canon (adet (S + 1) ys)).2:=by unfold alP;rw [if_pos e2,Int.toNat_natCast]
  have p3:alP ((T + S + 1:Nat):Int) (xs ++ shW T ys) = LP.normC (LP.canon (adet (T + S + 1) (xs ++ shW T ys))).2:=by unfold alP;rw [if_pos e3,Int.toNat_natCast]
  have p4:alP ((T + S + 2:Nat):Int) (xs ++ shW (T + 1) ys) = LP.normC (LP.canon (adet (T + S + 2) (xs ++ shW (T + 1) ys))).2:=by unfold alP;rw [if_pos e4,Int.toNat_natCast]
  have hs:=adet_sum (n:=T + 1) (m:=S + 1) (by omega) (by omega) hx hy
  rw [Nat.add_sub_cancel,show T + (S + 1) = T + S + 1 by omega] at hs
  have hz:=adet_split (n:=T + 1) (m:=S + 1) (by omega) (by omega) hx hy
  rw [show T + 1 + (S + 1) = T + S + 2 by omega] at hz
  rw [hz,canon_zero'] at p4
  obtain ⟨a,u,hu,ha,ca,ra,_⟩:=alex_form (adet_16 (N:=T) (by omega) hx (by omega)) (by omega)
  obtain ⟨b,v,hv,hb,cb,rb,_⟩:=alex_form (adet_16 (N:=S) (by omega) hy (by omega)) (by omega)
  obtain ⟨c,t,ht,hc,cc,rc,_⟩:=alex_form (adet_16 (N:=T + S) (by omega) hw1 (by omega)) (by omega)
  have hn:LP.normC (LP.canon (a * b)).2 = LP.normC (LP.canon (adet (T + S + 1) (xs ++ shW T ys))).2:=by
    rw [ha,hb,hs,show adet (T + 1) xs * u * (adet (S + 1) ys * v) = adet (T + 1) xs * adet (S + 1) ys * (u * v) by ac_rfl]
    exact norm_un _ (hu.mul hv)
  have hab:LP.canon (a * b) = LP.canon c:=by
    rw [pos_mul ca cb (fun h => norm_last (LP.canon_cano _) h) (fun h => norm_last (LP.canon_cano _) h),hn,cc]
  have habc:a * b = c:=by rw [← LP.of_canon (a * b),hab,LP.of_canon]
  refine ⟨e1,e2,by rwa [show ((T:Int) + S + 1) = ((T + S + 1:Nat):Int) by omega],by rwa [show ((T:Int) + S + 2) = ((T + S + 2:Nat):Int) by omega],?_,a,b,c,habc,ra,rb,rc,?_,?_,?_⟩
  · rw [show ((T:Int) + S + 2) = ((T + S + 2:Nat):Int) by omega,p4];rfl
  · rw [ca,← p1];rfl
  · rw [cb,← p2];rfl
  · rw [cc,← p3,show ((T:Int) + S + 1) = ((T + S + 1:Nat):Int) by omega]
theorem canon_dlt1:LP.canon (dlt 1) = (-2,[-1,0,0,0,-1]):=by
  refine LP.canon_eq (.inr ⟨by simp,by decide,by decide⟩) ?_
  refine LP.ext fun k => ?_
  show LP.co (LP.term (-2) (-1) + (LP.term (-2 + 1) 0 + (LP.term (-2 + 1 + 1) 0 + (LP.term (-2 + 1 + 1 + 1) 0 + (LP.term (-2 + 1 + 1 + 1 + 1) (-1) + 0))))) k = LP.co (1 * (LP.term 2 (-1) + LP.term (-2) (-1))) k
  rw [CR.one_mul]
  simp only [LP.co_add,LP.co_term,LP.co_zero]
  grind
theorem sums_jones {T S:Nat} (t1:1 ≤ T) (t2:T ≤ 2) (s1:1 ≤ S) (s2:S ≤ 2) {xs ys:List Int} (hx:okB (T + 1) xs) (hy:okB (S + 1) ys) (lx:xs.length ≤ 6) (ly:ys.length ≤ 6) :
    joE ((T:Int) + 1) xs = 0 ∧ joE ((S:Int) + 1) ys = 0 ∧ joE ((T:Int) + S + 1) (xs ++ shW T ys) = 0 ∧ joE ((T:Int) + S + 2) (xs ++ shW (T + 1) ys) = 0 ∧
    ∃ p q r s d:LP,p * q = r ∧ r * d = s ∧ LP.Rt p ∧ LP.Rt q ∧ LP.Rt r ∧ LP.Rt s ∧ LP.Rt d ∧ LP.canon d = (-2,[-1,0,0,0,-1]) ∧ joP ((T:Int) + 1) xs = p ∧ joP ((S:Int) + 1) ys = q ∧ joP ((T:Int) + S + 1) (xs ++ shW T ys) = r ∧ joP ((T:Int) + S + 2) (xs ++ shW (T + 1) ys) = s:=by
  have hw1:okB (T + S + 1) (xs ++ shW T ys):=fun z hz => by
    rcases List.mem_append.1 hz with h | h
    · have:=hx z h;exact ⟨this.1,by omega⟩
    · exact okB_shW hy z h
  have hw2:okB (T + S + 2) (xs ++ shW (T + 1) ys):=fun z hz => by
    rcases List.mem_append.1 hz with h | h
    · have:=hx z h;exact ⟨this.1,by omega⟩
    · have:=okB_shW (s:=T + 1) hy z h;exact ⟨this.1,by omega⟩
  have l1:(xs ++ shW T ys).length ≤ 12:=by simp [shW];omega
  have l2:(xs ++ shW (T + 1) ys).length ≤ 12:=by simp [shW];omega
  have i3:((T:Int) + S + 1) = ((T + S + 1:Nat):Int):=by omega
  have i4:((T:Int) + S + 2) = ((T + S + 2:Nat):Int):=by omega
  have h1:=jon_side (n:=T + 1) (m:=S + 1) (s:=T) (by omega) (by omega) (by omega) (by omega) (.inl rfl) (okB_nat hx) (okB_nat hy)
  have h2:=jon_side (n:=T + 1) (m:=S + 1) (s:=T + 1) (by omega) (by omega) (by omega) (by omega) (.inr rfl) (okB_nat hx) (okB_nat hy)
  rw [if_pos (by omega),show T + (S + 1) = T + S + 1 by omega,show dlt 0 = (1:LP) from rfl,CR.mul_one] at h1
  rw [if_neg (by omega),show T + 1 + (S + 1) = T + S + 2 by omega,← h1] at h2
  rw [i3,i4]
  refine ⟨joE_ok (n:=T + 1) (by omega) (by omega) hx (by omega),joE_ok (n:=S + 1) (by omega) (by omega) hy (by omega),joE_ok (by omega) (by omega) hw1 l1,joE_ok (by omega) (by omega) hw2 l2,_,_,_,_,dlt 1,h1.symm,h2.symm,jon_rt (by omega) (by omega) hx (by omega),jon_rt (by omega) (by omega) hy (by omega),jon_rt (by omega) (by omega) hw1 l1,jon_rt (by omega) (by omega) hw2 l2,(dlt_n1 1).rt (by omega) (by omega),canon_dlt1,joP_ok (n:=T + 1) (by omega) (by omega) hx (by omega),joP_ok (n:=S + 1) (by omega) (by omega) hy (by omega),joP_ok (by omega) (by omega) hw1 l1,joP_ok (by omega) (by omega) hw2 l2⟩
theorem sums_num {T S:Nat} (t1:1 ≤ T) (t2:T ≤ 2) (s1:1 ≤ S) (s2:S ≤ 2) {xs ys:List Int} (hx:okB (T + 1) xs) (hy:okB (S + 1) ys) (lx:xs.length ≤ 6) (ly:ys.length ≤ 6) :
    ∃ (lp lq lr ls:Int) (cp cq cr cs ap aq ar:List Int),(joE ((T:Int) + 1) xs = 0 ∧ LP.canon (joP ((T:Int) + 1) xs) = (lp,cp)) ∧ (joE ((S:Int) + 1) ys = 0 ∧ LP.canon (joP ((S:Int) + 1) ys) = (lq,cq)) ∧
      (joE ((T:Int) + S + 1) (xs ++ shW T ys) = 0 ∧ LP.canon (joP ((T:Int) + S + 1) (xs ++ shW T ys)) = (lr,cr)) ∧ (joE ((T:Int) + S + 2) (xs ++ shW (T + 1) ys) = 0 ∧ LP.canon (joP ((T:Int) + S + 2) (xs ++ shW (T + 1) ys)) = (ls,cs)) ∧
      LP.mulR lp cp lq cq = (0,lr,cr) ∧ LP.mulR lr cr (-2) [-1,0,0,0,-1] = (0,ls,cs) ∧ ((Lit.int .i64 lp).wf = true ∧ (Lit.int .i64 lq).wf = true ∧ (Lit.int .i64 lr).wf = true) ∧
      (alE ((T:Int) + 1) xs = 0 ∧ alP ((T:Int) + 1) xs = ap) ∧ (alE ((S:Int) + 1) ys = 0 ∧ alP ((S:Int) + 1) ys = aq) ∧ (alE ((T:Int) + S + 1) (xs ++ shW T ys) = 0 ∧ alP ((T:Int) + S + 1) (xs ++ shW T ys) = ar) ∧
      (alE ((T:Int) + S + 2) (xs ++ shW (T + 1) ys) = 0 ∧ alP ((T:Int) + S + 2) (xs ++ shW (T + 1) ys) = []) ∧ LP.mulR 0 ap 0 aq = (0,0,ar):=by
  obtain ⟨e1,e2,e3,e4,p,q,r,s,d,h1,h2,rp,rq,rr,rs,rd,hd,f1,f2,f3,f4⟩:=sums_jones t1 t2 s1 s2 hx hy lx ly
  obtain ⟨g1,g2,g3,g4,hz,a,b,c,k1,ra,rb,rc,ca,cb,cc⟩:=sums_alex t1 t2 s1 s2 hx hy lx ly
  refine ⟨_,_,_,_,_,_,_,_,_,_,_,⟨e1,by rw [f1]⟩,⟨e2,by rw [f2]⟩,⟨e3,by rw [f3]⟩,⟨e4,by rw [f4]⟩,?_,?_,⟨rp.wf,rq.wf,rr.wf⟩,⟨g1,rfl⟩,⟨g2,rfl⟩,⟨g3,rfl⟩,⟨g4,hz⟩,?_⟩
  · rw [← h1] at rr ⊢
    exact LP.mulR_canon rp rq rr
  · have h:=LP.mulR_canon rr rd (by rw [h2];exact rs)
    rw [hd,h2] at h
    exact h
  · have h:=LP.mulR_canon ra rb (by rw [k1];exact rc)
    rw [k1,ca,cb,cc] at h
    exact h
end Go.Proofs.YtbedpgcbfbjgiaaGreatDoor
namespace Go.Proofs.YtbedpgcbfbjgiaaGreatDoor
set_option linter.unusedVariables false
set_option linter.unusedSimpArgs false
open Go.RowKit

theorem shW_append (o:Nat) (u v:List Int):shW o (u ++ v) = shW o u ++ shW o v:=by unfold shW;rw [List.map_append]
set_option maxRecDepth 100000 in
set_option maxHeartbeats 4000000 in
theorem shifted_any (o b9 b10:Nat) (X:Option Addr) (xn xc:Nat) (xs:List Int) (Y:Option Addr) (yn yc:Nat) (ys:List Int) (w:World) (h9:Blk w b9 22 #[.slice X xn xc]) (h10:Blk w b10 22 #[.slice Y yn yc]) (hX:SL w X xn xc xs) (hY:SL w Y yn yc ys) (ho:o ≤ 6) (hx6:xn ≤ 6) (hy6:yn ≤ 6) (hy:∀ y ∈ ys,y.natAbs ≤ 6) :
    Calls Tryz.prog 6 #[.int .i64 (o:Int),.pointer (some ⟨b9,0,none⟩),.pointer (some ⟨b10,0,none⟩)] w (GivesOwn w (xs ++ shW o ys)):=by
  have hc9:=h9.cell 0
  simp at hc9
  have H10:=hide h10
  have HY:=hide hY
  have HYB:=hide hy
  have HYL:=hide hY.il.len
  have YK:Hid (∀ w',Below w.heap.size w w' → SL w' Y yn yc ys):=hide (fun w' h => hY.below h)
  have HCL:=hide (clone_any X xn xc xs w hX.il hX.nil)
  have HXL:=hide hX.il.len
  obtain ⟨i0,hi0,hz0,hz1,hz2⟩:=info_parts int_info
  have HI0:=hide hi0
  have HZ0:=hide hz0
  have HZ1:=hide hz1
  have HZ2:=hide hz2
  clear h9 h10 hX hY hy hi0 hz0 hz1 hz2
  go_enter Tryz.func6,Tryz.ntmps6
  go_wp2_with fail
  refine HCL.out.mono ?_
  rintro e w1 ⟨S0,q0,c0,rfl,hs,hb⟩
  have hq0:q0 = xn:=by have:=hs.len;rw [HXL.out] at this;exact this.symm
  subst hq0
  have HO1:Hid (OwnI w1 w.heap.size S0 q0 c0 (xs ++ shW o (ys.take 0))):=hide (by rw [List.take_zero];show OwnI _ _ _ _ _ (xs ++ []);rw [List.append_nil];exact hs)
  have HB1:=hide hb
  have hc10:=(H10.out.below hb H10.out.lt).cell 0
  simp at hc10
  replace HY:=hide (HY.out.below hb)
  have HY1:Hid (SL w1 Y yn yc ys):=HY
  clear hs hb HCL hc9 H10 HY
  go_wp2_with fail
  go_loopw [0,5,12] (fun ov sv iv wr => ∃ (k q c2:Nat) (S:Option Addr) (d:Int),ov = .int .i64 d ∧ (d = o ∨ d = -(o:Int)) ∧ sv = .slice S q c2 ∧ iv = .int .i64 k ∧ k ≤ yn ∧ Hid (q = q0 + k) ∧ Hid (OwnI wr w.heap.size S q c2 (xs ++ shW o (ys.take k))) ∧ Hid (Below w.heap.size w wr) ∧ Hid (SL wr Y yn yc ys)) (fun _ _ iv _ => yn - (intOf iv).toNat)
  case atStart => exact ⟨0,q0,c0,S0,o,rfl,.inl rfl,rfl,rfl,Nat.zero_le _,hide rfl,HO1,HB1,HY1⟩
  case round =>
    clear HO1 HB1 HY1 hc10
    obtain ⟨k,q,c2,S,d,rfl,hd,rfl,rfl,hk,HQ,HO,HB,HY⟩:=hrel
    by_cases hlt:k < yn
    · obtain ⟨ad,rfl,hcl⟩:=HY.out.il.at_ hlt
      have hkl:k < ys.length:=by rw [HYL.out];exact hlt
      have hyb:=HYB.out (ys.getD k 0) (by rw [show ys.getD k 0 = ys[k] by simp [List.getD,hkl]];exact List.getElem_mem _)
      obtain ⟨y,hye⟩:∃ y,ys.getD k 0 = y:=⟨_,rfl⟩
      rw [hye] at hcl hyb
      have HTK:Hid (xs ++ shW o (ys.take (k + 1)) = (xs ++ shW o (ys.take k)) ++ [if y < 0 then y - o else y + o]):=hide (by
        rw [List.take_succ_eq_append_getElem hkl,shW_append,List.append_assoc,← hye]
        congr 2
        simp [shW,List.getD,hkl])
      have hy1:-6 ≤ y:=by omega
      have hy2:y ≤ 6:=by omega
      have hq12:q ≤ 12:=by have:=HQ.out;omega
      generalize xs ++ shW o (ys.take k) = L at *
      clear hkl hye hyb
      by_cases h0:y < 0
      · skip
        have hd1:decide (y < 0) = true:=decide_eq_true h0
        have HM:Hid (max d (-d) = (o:Int)):=hide (by omega)
        obtain ⟨z,hz⟩:∃ z,y - o = z:=⟨_,rfl⟩
        have hwz:IntKind.i64.wrap (y + -(o:Int)) = z:=by rw [IntKind.wrap_i64];omega
        have hwd:IntKind.i64.wrap (-d) = -d:=by rw [IntKind.wrap_i64];omega
        have hwo:IntKind.i64.wrap (-(o:Int)) = -(o:Int):=by rw [IntKind.wrap_i64];omega
        have HTZ:Hid (xs ++ shW o (ys.take (k + 1)) = L ++ [z]):=hide (by rw [HTK.out,if_pos h0,hz])
        have HD:=hide hd
        clear HTK hz hd
        go_wp2_with (first | ((with_reducible show wpList _ _ _ (Oper.mk _ (.call { callee:=.builtin .max,args:=_,argTypes:=_ }) _ _ _ _ :: _) _ _);refine wpList_gives rfl (gives_maxI rfl rfl rfl HM.out) ?_) | (at_builtin;refine wpList_append_int _ rfl (.tmp 27) (.tmp 31) 22 rfl w.heap.size i0 Tryz.underlying22 HI0.out HZ0.out HZ1.out HZ2.out S q c2 L rfl (HO.out.alloc _) (some ⟨_,0,none⟩) 1 1 [z] rfl (IL.lit _ [z] (by simp) rfl rfl) (by omega) (by have:=HB.out.size;simp;omega) ?_;intro A8 c8 w8 hap))
        have hN:=hap.own
        rw [← HTZ.out] at hN
        have HN2:=hide hN
        have hne:∀ j,(Value.slice S (q + 1) c2).ownBlock = some j → w.heap.size ≤ j:=fun j hj => (HO.out.lt j (by rw [ownBlock_len S q (q + 1) c2 c2];exact hj)).1
        have HB8:=hide ((HB.out.alloc HB.out.size (.cells #[.int .i64 z] 3)).grown hap.grown (by have:=HB.out.size;simp;omega) hne)
        have HY8:=hide (YK.out _ HB8.out)
        clear hap hN hne HTZ
        go_roundw
        case rel => exact ⟨k + 1,q + 1,c8,A8,_,rfl,.inr rfl,by go_num,by go_num,by omega,hide (by have:=HQ.out;omega),HN2,HB8,HY8⟩
        case measure => simp [intOf];omega
      · skip
        have hd1:decide (y < 0) = false:=decide_eq_false h0
        have HM:Hid (max d (-d) = (o:Int)):=hide (by omega)
        obtain ⟨z,hz⟩:∃ z,y + o = z:=⟨_,rfl⟩
        have hwz:IntKind.i64.wrap (y + (o:Int)) = z:=by rw [IntKind.wrap_i64];omega
        have hwd:IntKind.i64.wrap (-d) = -d:=by rw [IntKind.wrap_i64];omega
        have hwo:IntKind.i64.wrap (-(o:Int)) = -(o:Int):=by rw [IntKind.wrap_i64];omega
        have HTZ:Hid (xs ++ shW o (ys.take (k + 1)) = L ++ [z]):=hide (by rw [HTK.out,if_neg h0,hz])
        have HD:=hide hd
        clear HTK hz hd
        go_wp2_with (first | ((with_reducible show wpList _ _ _ (Oper.mk _ (.call { callee:=.builtin .max,args:=_,argTypes:=_ }) _ _ _ _ :: _) _ _);refine wpList_gives rfl (gives_maxI rfl rfl rfl HM.out) ?_) | (at_builtin;refine wpList_append_int _ rfl (.tmp 27) (.tmp 31) 22 rfl w.heap.size i0 Tryz.underlying22 HI0.out HZ0.out HZ1.out HZ2.out S q c2 L rfl (HO.out.alloc _) (some ⟨_,0,none⟩) 1 1 [z] rfl (IL.lit _ [z] (by simp) rfl rfl) (by omega) (by have:=HB.out.size;simp;omega) ?_;intro A8 c8 w8 hap))
        have hN:=hap.own
        rw [← HTZ.out] at hN
        have HN2:=hide hN
        have hne:∀ j,(Value.slice S (q + 1) c2).ownBlock = some j → w.heap.size ≤ j:=fun j hj => (HO.out.lt j (by rw [ownBlock_len S q (q + 1) c2 c2];exact hj)).1
        have HB8:=hide ((HB.out.alloc HB.out.size (.cells #[.int .i64 z] 3)).grown hap.grown (by have:=HB.out.size;simp;omega) hne)
        have HY8:=hide (YK.out _ HB8.out)
        clear hap hN hne HTZ
        go_roundw
        case rel => exact ⟨k + 1,q + 1,c8,A8,_,rfl,.inl rfl,by go_num,by go_num,by omega,hide (by have:=HQ.out;omega),HN2,HB8,HY8⟩
        case measure => simp [intOf];omega
    · have HO2:Hid (OwnI wr w.heap.size S q c2 (xs ++ shW o ys)):=hide (by
        have h:=HO.out
        rwa [List.take_of_length_le (by rw [HYL.out];omega)] at h)
      clear HO hd
      go_wp2_with fail
      go_ret
      exact ⟨_,_,_,rfl,HO2.out,HB.out⟩
end Go.Proofs.YtbedpgcbfbjgiaaGreatDoor
namespace Go.Proofs.YtbedpgcbfbjgiaaGreatDoor
set_option linter.unusedVariables false
set_option linter.unusedSimpArgs false

theorem coefT_far {l:List Tm} {k:Int} (h:∀ t ∈ l,t.1 ≠ k):coefT l k = 0:=by
  induction l with
  | nil => rfl
  | cons t l ih =>
    show (if t.1 = k then t.2 else 0) + coefT l k = 0
    rw [if_neg (h t (by simp)),ih fun s hs => h s (by simp [hs])]
    rfl
def okT (l:List Tm) (lo:Int) (cs:List Int) (m:Nat):Bool:=decide (0 ≤ lo) && decide (lo + cs.length ≤ m) && (l.all fun t => decide (0 ≤ t.1) && decide (t.1 < m)) && (List.range m).all fun j => decide (coefT l (j:Int) = if lo ≤ (j:Int) ∧ (j:Int) < lo + cs.length then cs.getD ((j:Int) - lo).toNat 0 else 0)
theorem okT_of {l:List Tm} {lo:Int} {cs:List Int} {m:Nat} (h:okT l lo cs m = true):LP.of lo cs = LP.mk l:=by
  simp only [okT,Bool.and_eq_true,decide_eq_true_eq,List.all_eq_true,List.mem_range] at h
  obtain ⟨⟨⟨h0,h1⟩,h2⟩,h3⟩:=h
  refine LP.ext fun k => ?_
  rw [LP.co_of,LP.co_mk]
  by_cases hk:0 ≤ k ∧ k < m
  · obtain ⟨j,rfl⟩:∃ j:Nat,k = (j:Int):=⟨k.toNat,by omega⟩
    exact (h3 j (by omega)).symm
  · rw [if_neg (by omega),coefT_far fun t ht => by have:=h2 t ht;omega]
end Go.Proofs.YtbedpgcbfbjgiaaGreatDoor
namespace Go.Proofs.YtbedpgcbfbjgiaaGreatDoor
set_option linter.unusedVariables false
set_option linter.unusedSimpArgs false

def dltT:Nat → List Tm
  | 0 => [(0,1)]
  | k + 1 => scaleT 2 (-1) (dltT k) ++ scaleT (-2) (-1) (dltT k)
def tST (n:Nat):(List (List Nat) → List Tm) → List Int → List Tm
  | F,[] => F []
  | F,x :: w => scaleT (sgx x) 1 (tST n (fun l => F (Tl.straight n :: l)) w) ++ scaleT (-sgx x) 1 (tST n (fun l => F (Tl.hook n x.natAbs :: l)) w)
theorem co_dltT:∀ k j,LP.co (dlt k) j = coefT (dltT k) j
  | 0,j => by
    show LP.co 1 j = (if (0:Int) = j then 1 else 0) + 0
    rw [LP.co_one,Int.add_zero]
  | k + 1,j => by
    show LP.co (dlt k * (LP.term 2 (-1) + LP.term (-2) (-1))) j = coefT (scaleT 2 (-1) (dltT k) ++ scaleT (-2) (-1) (dltT k)) j
    rw [CR.mul_add,LP.co_add,CR.mul_comm (dlt k) (LP.term 2 (-1)),LP.co_term_mul,CR.mul_comm (dlt k) (LP.term (-2) (-1)),LP.co_term_mul,coefT_append,coefT_scale,coefT_scale,co_dltT k,co_dltT k]
theorem co_tST {n:Nat}:∀ (w:List Int) (F:List (List Nat) → LP) (G:List (List Nat) → List Tm),(∀ l j,LP.co (F l) j = coefT (G l) j) → ∀ j,LP.co (tS n F w) j = coefT (tST n G w) j
  | [],F,G,h,j => h [] j
  | x :: w,F,G,h,j => by
    show LP.co (LP.term (sgx x) 1 * tS n (fun l => F (Tl.straight n :: l)) w + LP.term (-sgx x) 1 * tS n (fun l => F (Tl.hook n x.natAbs :: l)) w) j = coefT (scaleT (sgx x) 1 (tST n (fun l => G (Tl.straight n :: l)) w) ++ scaleT (-sgx x) 1 (tST n (fun l => G (Tl.hook n x.natAbs :: l)) w)) j
    rw [LP.co_add,LP.co_term_mul,LP.co_term_mul,coefT_append,coefT_scale,coefT_scale,co_tST w _ (fun l => G (Tl.straight n :: l)) fun l => h _,co_tST w _ (fun l => G (Tl.hook n x.natAbs :: l)) fun l => h _]
def jonT (n:Nat) (w:List Int):List Tm:=scaleT (-3 * LP.expo w) (if LP.expo w % 2 = 0 then 1 else -1) (tST n (fun l => dltT (lps n l - 1)) w)
theorem jon_mk (n:Nat) (w:List Int):jon n w = LP.mk (jonT n w):=LP.ext fun j => by
  unfold jon jonT
  rw [CR.mul_comm,LP.co_term_mul,LP.co_mk,coefT_scale]
  exact congrArg _ (co_tST w _ _ (fun l => co_dltT _) _)
theorem jon_333K:okT (jonT 2 [-1,-1,-1]) 4 [1,0,0,0,0,0,0,0,1,0,0,0,-1] 17 = true:=by decide +kernel
theorem jo_333:joE 2 [-1,-1,-1] = 0 ∧ (LP.canon (joP 2 [-1,-1,-1])).2.length = 13:=by
  have h:joE 2 [-1,-1,-1] = 0:=by decide
  refine ⟨h,?_⟩
  unfold joP
  rw [if_pos h,show (2:Int).toNat = 2 from rfl,jon_mk,← okT_of jon_333K,LP.canon_of (.inr ⟨by decide,by decide,by decide⟩)]
  rfl
end Go.Proofs.YtbedpgcbfbjgiaaGreatDoor
namespace Go.Proofs.YtbedpgcbfbjgiaaGreatDoor
set_option linter.unusedVariables false
set_option linter.unusedSimpArgs false
open Go.RowKit

set_option maxRecDepth 100000 in
set_option maxHeartbeats 2000000 in
theorem same_t (la:Int) (A:Option Addr) (n c:Nat) (xs:List Int) (B:Option Addr) (m d:Nat) (w:World) (ha:SL w A n c xs) (hb:SL w B m d xs) :
    Calls Tryz.prog 11 #[PV la A n c,PV la B m d] w fun e w' => e = .returned (.bool true) ∧ Below w.heap.size w w':=by
  have h1:Below w.heap.size w ((w.alloc (.cells #[.int .i64 la,.slice A n c] 28)).alloc (.cells #[.int .i64 la,.slice B m d] 28)):=((Below.refl _ _).alloc (Nat.le_refl _) _).alloc (by simp) _
  have HB0:=hide h1
  have he:=equal_any A B n m c d xs xs _ (ha.il.below h1) (hb.il.below h1)
  rw [eqB_true rfl] at he
  have HE:=hide he
  clear ha hb h1 he
  go_enter Tryz.func11,Tryz.ntmps11
  go_wp2_with fail
  refine HE.out.mono ?_
  rintro e w1 ⟨rfl,hb⟩
  have HB1:=hide (HB0.out.trans (hb.mono HB0.out.size))
  clear hb
  go_wp2_with fail
  go_ret
  exact ⟨rfl,HB1.out⟩
end Go.Proofs.YtbedpgcbfbjgiaaGreatDoor
namespace Go.Proofs.YtbedpgcbfbjgiaaGreatDoor
set_option linter.unusedVariables false
set_option linter.unusedSimpArgs false
open Go.RowKit

set_option maxRecDepth 100000 in
theorem strands_gen (n:Int) (K:Nat) (kz:Int) (hkz:kz = (K:Int) + 1) (h1:1 ≤ K) (hK:K ≤ 10) (w:World):Calls Tryz.prog 4 #[.int .i64 n,.int .i64 kz] w fun e w' => ∃ T:Nat,1 ≤ T ∧ T ≤ K ∧ e = .returned (.int .i64 ((T:Int) + 1)) ∧ w = w':=by
  subst hkz
  obtain ⟨p,hp⟩:∃ p:Nat,n % (K:Int) = (p:Int):=⟨(n % (K:Int)).toNat,by have:=Int.emod_nonneg n (show (K:Int) ≠ 0 by omega);omega⟩
  have hp5:p < K:=by have:=Int.emod_lt_of_pos n (show (0:Int) < (K:Int) by omega);omega
  have HP:=hide hp
  have hadd:IntKind.i64.wrap (2 + (p:Int)) = ((p + 1:Nat):Int) + 1:=by rw [IntKind.wrap_i64];omega
  have HA:=hide hadd
  have hs1:(K:Int) + 1 - 1 = (K:Int):=by omega
  have hs2:IntKind.i64.wrap (K:Int) = (K:Int):=by rw [IntKind.wrap_i64];omega
  clear hp hadd
  go_enter Tryz.func4,Tryz.ntmps4
  go_wp2_with fail
  refine (mbelow_any n K _ h1 (by omega)).mono ?_
  rintro e w1 ⟨rfl,hww⟩
  subst hww
  rw [HP.out]
  go_wp2_with ((with_reducible show wpList _ _ _ (Oper.mk _ (.binOp .add _ _ _) _ _ _ _ :: _) _ _);refine wpList_gives rfl (gives_add rfl rfl rfl HA.out) ?_)
  go_ret
  exact ⟨p + 1,by omega,by omega,by
    have e:IntKind.i64.wrap (2 + (p:Int)) = ((p + 1:Nat):Int) + 1:=HA.out
    first | rfl | (simp;omega) | (simp [e];omega),rfl⟩
end Go.Proofs.YtbedpgcbfbjgiaaGreatDoor
namespace Go.Proofs.YtbedpgcbfbjgiaaGreatDoor
set_option linter.unusedVariables false
set_option linter.unusedSimpArgs false
open Go.RowKit

set_option maxRecDepth 100000 in
set_option maxHeartbeats 4000000 in
theorem trefoil_t (F:AlexC) (FJ:JonesC) (FC:ColC) (w:World) (hT:TabW w):Calls Tryz.prog 10 #[] w fun e w' => e = .returned (.bool true) ∧ Below w.heap.size w w':=by
  have HF:=hide F
  have HFJ:=hide FJ
  have HFC:=hide FC
  have HTB:=hide hT
  clear F FJ FC hT
  have HW:=hide ((Below.refl w.heap.size w).alloc (Nat.le_refl _) (.cells #[.int .i64 1,.int .i64 1,.int .i64 1] 3))
  have HS:=hide (SL.lit w [1,1,1] (by decide) rfl rfl)
  go_enter Tryz.func10,Tryz.ntmps10
  go_wp2_with fail
  refine (HF.out.poly 2 _ 3 3 [1,1,1] _ HS.out (by decide) alF_2).mono ?_
  rintro e w11 ⟨P,pn,pc,rfl,hs,hn,hb⟩
  replace HW:=hide (HW.out.trans (hb.mono HW.out.size))
  dsimp only at hs ⊢
  rw [al_111.1]
  rw [al_111.2.1] at hs
  have SP:=hide hs
  clear hb hs hn HS
  go_upto_region 2 with fail
  have hb:Below w11.heap.size w11 (w11.alloc (.cells #[.int .i64 0,.slice P pn pc] 28)):=(Below.refl _ _).alloc (Nat.le_refl _) _
  have BP:=hide (Blk.new w11 28 #[.int .i64 0,.slice P pn pc])
  replace HW:=hide (HW.out.trans (hb.mono HW.out.size))
  replace SP:=hide (SP.out.below hb)
  obtain ⟨bP,hq⟩:∃ q,w11.heap.size = q:=⟨_,rfl⟩
  obtain ⟨w12,hw⟩:∃ x,w11.alloc (.cells #[.int .i64 0,.slice P pn pc] 28) = x:=⟨_,rfl⟩
  rw [hw] at BP HW SP ⊢
  rw [hq] at BP  ⊢
  clear hb hw hq
  have hb:Below w12.heap.size w12 (w12.alloc (.cells #[.int .i64 (-1),.int .i64 (-1),.int .i64 (-1)] 3)):=(Below.refl _ _).alloc (Nat.le_refl _) _
  have HS:=hide (SL.lit w12 [-1,-1,-1] (by decide) rfl rfl)
  replace HW:=hide (HW.out.trans (hb.mono HW.out.size))
  replace SP:=hide (SP.out.below hb)
  replace BP:=hide (BP.out.below hb BP.out.lt)
  clear hb
  go_wp2_with fail
  refine (HFJ.out.poly 2 _ 3 3 [-1,-1,-1] _ HS.out (by decide)).mono ?_
  rintro e w13 ⟨Q,qn,qc,rfl,hs,hn,hb⟩
  replace HW:=hide (HW.out.trans (hb.mono HW.out.size))
  replace SP:=hide (SP.out.below hb)
  replace BP:=hide (BP.out.below hb BP.out.lt)
  dsimp only at hs ⊢
  rw [jo_333.1]
  have hqn:=hs.il.len
  rw [jo_333.2] at hqn
  subst hqn
  obtain ⟨lq,hlq⟩:∃ l,(LP.canon (joP 2 [-1,-1,-1])).1 = l:=⟨_,rfl⟩
  rw [hlq]
  clear hlq
  clear hb hs hn HS
  go_upto_region 3 with fail
  have hb:Below w13.heap.size w13 (w13.alloc (.cells #[.int .i64 lq,.slice Q 13 qc] 28)):=(Below.refl _ _).alloc (Nat.le_refl _) _
  have BQ:=hide (Blk.new w13 28 #[.int .i64 lq,.slice Q 13 qc])
  replace HW:=hide (HW.out.trans (hb.mono HW.out.size))
  replace SP:=hide (SP.out.below hb)
  replace BP:=hide (BP.out.below hb BP.out.lt)
  obtain ⟨bQ,hq⟩:∃ q,w13.heap.size = q:=⟨_,rfl⟩
  obtain ⟨w14,hw⟩:∃ x,w13.alloc (.cells #[.int .i64 lq,.slice Q 13 qc] 28) = x:=⟨_,rfl⟩
  rw [hw] at BQ HW SP BP ⊢
  rw [hq] at BQ  ⊢
  clear hb hw hq
  have hb:Below w14.heap.size w14 (w14.alloc (.cells #[.int .i64 1,.int .i64 1,.int .i64 1] 3)):=(Below.refl _ _).alloc (Nat.le_refl _) _
  have HS:=hide (SL.lit w14 [1,1,1] (by decide) rfl rfl)
  replace HW:=hide (HW.out.trans (hb.mono HW.out.size))
  replace SP:=hide (SP.out.below hb)
  replace BP:=hide (BP.out.below hb BP.out.lt)
  replace BQ:=hide (BQ.out.below hb BQ.out.lt)
  clear hb
  go_wp2_with fail
  refine (HFC.out.count 2 _ 3 3 [1,1,1] 3 _ HS.out (HTB.out.below HW.out) (by decide) (by decide)).mono ?_
  rintro e w15 ⟨rfl,hb⟩
  replace HW:=hide (HW.out.trans (hb.mono HW.out.size))
  replace SP:=hide (SP.out.below hb)
  replace BP:=hide (BP.out.below hb BP.out.lt)
  replace BQ:=hide (BQ.out.below hb BQ.out.lt)
  rw [col_111.1,col_111.2]
  clear hb HS
  have hp0:=BP.out.cell 0
  have hp1:=BP.out.cell 1
  simp at hp0 hp1
  have hb:Below w15.heap.size w15 (w15.alloc (.cells #[.int .i64 1,.int .i64 (-1),.int .i64 1] 3)):=(Below.refl _ _).alloc (Nat.le_refl _) _
  have HS:=hide (SL.lit w15 [1,-1,1] (by decide) rfl rfl)
  replace HW:=hide (HW.out.trans (hb.mono HW.out.size))
  replace SP:=hide (SP.out.below hb)
  replace BP:=hide (BP.out.below hb BP.out.lt)
  replace BQ:=hide (BQ.out.below hb BQ.out.lt)
  clear hb
  go_wp2_with fail
  refine (same_t 0 P pn pc [1,-1,1] _ 3 3 _ SP.out HS.out).mono ?_
  rintro e w16 ⟨rfl,hb⟩
  replace HW:=hide (HW.out.trans (hb.mono HW.out.size))
  replace SP:=hide (SP.out.below hb)
  replace BP:=hide (BP.out.below hb BP.out.lt)
  replace BQ:=hide (BQ.out.below hb BQ.out.lt)
  clear hb HS hp0 hp1
  have hq0:=BQ.out.cell 0
  have hq1:=BQ.out.cell 1
  simp at hq0 hq1
  go_wp2_with fail
  go_ret
  exact ⟨rfl,HW.out⟩
end Go.Proofs.YtbedpgcbfbjgiaaGreatDoor
