/- Several texts in one. -/
import Derived.Test.YtndgffiihbdppaaGreatDoorPart1
import Derived.Test.YtndgffiihbdppaaGreatDoorPart2
import Derived.Test.YtndgffiihbdppaaGreatDoorPart14
import Derived.Laws.EntriesVeiled
namespace Go.Proofs.YtndgffiihbdppaaGreatDoor
set_option linter.unusedVariables false
set_option linter.unusedSimpArgs false
open Go.RowKit

theorem eLarge:∀ args w,(callFunc 50 args).run Tryz.prog w = .ok (.enter 50 args) w:=enters (fn:=Tryz.f50) (by kernel_rfl) (by kernel_rfl) (by kernel_rfl)
set_option maxRecDepth 100000 in
set_option maxHeartbeats 2000000 in
theorem large_any (x:Int) (w:World) :
    Calls Tryz.prog 50 #[.int .i64 x] w fun e w' => e = .returned (.bool (!LP.okC x)) ∧ w = w':=by
  by_cases h1:x < -100000000
  · have HR:Hid ((!LP.okC x) = true):=hide (by unfold LP.okC;simp;omega)
    go_enter Tryz.func50,Tryz.ntmps50
    go_wp2_with fail
    go_ret
    rw [HR.out]
    exact ⟨rfl,rfl⟩
  by_cases h2:100000000 < x
  · have HR:Hid ((!LP.okC x) = true):=hide (by unfold LP.okC;simp;omega)
    go_enter Tryz.func50,Tryz.ntmps50
    go_wp2_with fail
    go_ret
    rw [HR.out]
    exact ⟨rfl,rfl⟩
  · have HR:Hid ((!LP.okC x) = false):=hide (by unfold LP.okC;simp;omega)
    go_enter Tryz.func50,Tryz.ntmps50
    go_wp2_with fail
    go_ret
    rw [HR.out]
    exact ⟨rfl,rfl⟩

set_option maxRecDepth 100000 in
set_option maxHeartbeats 2000000 in
theorem containsI_any {fid:FuncId} {caps:List Value} (f:Int → Bool) (hfid:∀ args w,(callFunc fid args).run Tryz.prog w = .ok (.enter fid args) w) (A:Option Addr) (n c:Nat) (xs:List Int) (w:World) (ha:IL w A n xs)
    (hf:∀ x w,Calls Tryz.prog fid (.int .i64 x :: caps).toArray w fun e w' => e = .returned (.bool (f x)) ∧ w = w') :
    Calls Tryz.prog 49 #[.slice A n c,.func (.func fid) #[] caps.toArray] w fun e w' => e = .returned (.bool (xs.any f)) ∧ w = w':=by
  have HL:=hide ha.len
  have HI:=hide (intIndex_any (caps:=caps) f hfid A n c xs w ha hf)
  have e1:=eIntIx
  clear ha hf
  go_enter Tryz.func49,Tryz.ntmps49
  go_wp2_with fail
  refine HI.out.mono ?_
  rintro e w1 ⟨h | h,rfl⟩
  · obtain ⟨rfl,h⟩:=h
    have HB:Hid (xs.any f = false):=hide (by
      rw [List.any_eq_false]
      intro x hx
      obtain ⟨j,hj,rfl⟩:=List.mem_iff_getElem.1 hx
      have:=h j (by rw [← HL.out];exact hj)
      rw [show xs.getD j 0 = xs[j] by simp [List.getD,List.getElem?_eq_getElem hj]] at this
      simp [this])
    clear HI h
    go_wp2_with fail
    go_ret
    rw [HB.out]
    exact ⟨rfl,rfl⟩
  · obtain ⟨k,rfl,hk,hfk,_⟩:=h
    have HB:Hid (xs.any f = true):=hide (by
      rw [List.any_eq_true]
      have hj:k < xs.length:=by rw [HL.out];exact hk
      rw [show xs.getD k 0 = xs[k] by simp [List.getD,List.getElem?_eq_getElem hj]] at hfk
      exact ⟨xs[k],List.getElem_mem _,hfk⟩)
    clear HI hfk
    go_wp2_with fail
    go_ret
    rw [HB.out]
    exact ⟨rfl,rfl⟩
theorem eContI:∀ args w,(callFunc 49 args).run Tryz.prog w = .ok (.enter 49 args) w:=enters (fn:=Tryz.f49) (by kernel_rfl) (by kernel_rfl) (by kernel_rfl)
theorem LP.any_large (xs:List Int):(xs.any fun x => !okC x) = !xs.all okC:=by rw [List.not_all_eq_any_not]

set_option maxRecDepth 100000 in
set_option maxHeartbeats 4000000 in
theorem lcheck_any (la:Int) (A:Option Addr) (n c:Nat) (xs:List Int) (w:World) (ha:SL w A n c xs) :
    Calls Tryz.prog 28 #[PV la A n c] w fun e w' => e = .returned (.int .i64 (LP.pfl la xs)) ∧ Below w.heap.size w w':=by
  have hl:=ha.il.len
  have hns:=ha.il.small
  have hb0:Below w.heap.size w (w.alloc (.cells #[.int .i64 la,.slice A n c] 26)):=(Below.refl _ _).alloc (Nat.le_refl _) _
  have HW:=hide hb0
  have HA:=hide (ha.below hb0)
  have hb1:=Blk.new w 26 #[.int .i64 la,.slice A n c]
  obtain ⟨w0,hw0⟩:∃ x,w.alloc (.cells #[.int .i64 la,.slice A n c] 26) = x:=⟨_,rfl⟩
  have HW0:=hide hw0
  rw [hw0] at HW HA hb1
  have B0:=hide hb1
  have hq0:=hb1.cell 0
  have hq1:=hb1.cell 1
  simp at hq0 hq1
  by_cases hbig:200 < n ∨ 1000 < la ∨ la < -1000
  · have HP:=hide (LP.pfl_big (lo:=la) (xs:=xs) (by omega))
    clear ha hl hb0 hb1
    by_cases h1:200 < n
    · go_enter Tryz.func28,Tryz.ntmps28
      go_upto_region 2 with fail
      clear hw0
      go_wp2_with fail
      go_ret
      rw [HP.out]
      exact ⟨rfl,HW.out⟩
    by_cases h2:la < -1000
    · go_enter Tryz.func28,Tryz.ntmps28
      go_upto_region 2 with fail
      clear hw0
      go_wp2_with fail
      go_ret
      rw [HP.out]
      exact ⟨rfl,HW.out⟩
    · have h3:1000 < la:=by omega
      go_enter Tryz.func28,Tryz.ntmps28
      go_upto_region 2 with fail
      clear hw0
      go_wp2_with fail
      go_ret
      rw [HP.out]
      exact ⟨rfl,HW.out⟩
  have hN:¬ (200 < xs.length ∨ 1000 < la ∨ la < -1000):=by omega
  have h1:n ≤ 200:=by omega
  have h2:la ≤ 1000:=by omega
  have h3:-1000 ≤ la:=by omega
  have HCN:=hide (containsI_any (fid:=50) (caps:=[]) (fun x => !LP.okC x) eLarge A n c xs w0 HA.out.il (fun x w => large_any x w))
  rw [LP.any_large] at HCN
  have ec:=eContI
  by_cases h4:n = 0
  · by_cases h5:la = 0
    · have HP:=hide (LP.pfl_loop hN (by omega))
      have hx:xs = []:=List.eq_nil_of_length_eq_zero (by omega)
      have HP2:Hid (LP.pfl la xs = 0):=hide (by rw [HP.out,hx];rfl)
      have HAL:Hid ((!xs.all LP.okC) = false):=hide (by rw [hx];rfl)
      rw [HAL.out] at HCN
      clear ha hl hb0 hb1 HP hx HA hN HAL
      subst h4 h5
      go_enter Tryz.func28,Tryz.ntmps28
      go_upto_region 2 with fail
      clear hw0
      go_wp2_with fail
      refine HCN.out.mono ?_
      rintro e w1 ⟨rfl,rfl⟩
      go_wp2_with fail
      go_ret
      rw [HP2.out]
      exact ⟨rfl,HW.out⟩
    · have HP:=hide (LP.pfl_bad hN (by omega))
      have hb:(la != 0) = true:=by simpa using h5
      clear ha hl hb0 hb1 HA hN h5
      subst h4
      go_enter Tryz.func28,Tryz.ntmps28
      go_upto_region 2 with fail
      clear hw0
      go_wp2_with fail
      go_ret
      rw [HP.out]
      exact ⟨rfl,HW.out⟩
  · have b4:((n:Int) == 0) = false:=by simp;omega
    have b5:decide ((0:Int) < n) = true:=by simp;omega
    have hpos:0 < n:=by omega
    obtain ⟨ad,hA,hal,hac⟩:=HA.out.il.mem hpos
    subst hA
    have c0:=hac 0 hpos
    have cl:=hac (n - 1) (by omega)
    obtain ⟨x0,hx0⟩:∃ x,xs.getD 0 0 = x:=⟨_,rfl⟩
    obtain ⟨xl,hxl⟩:∃ x,xs.getD (n - 1) 0 = x:=⟨_,rfl⟩
    rw [hx0] at c0
    have c0:w0.cell? ad = some (.int .i64 x0):=by
      have e:ad.add 0 = ad:=by cases ad;simp [Addr.add]
      rw [e] at c0;exact c0
    rw [hxl] at cl
    have hw1:IntKind.i64.wrap ((n:Int) - 1) = ((n - 1:Nat):Int):=by rw [IntKind.wrap_i64];omega
    obtain ⟨k1,hk1⟩:∃ k,n - 1 = k:=⟨_,rfl⟩
    rw [hk1] at cl hw1 hxl
    have hkn:k1 < n:=by omega
    clear hb0 hb1 hac
    by_cases h6:x0 = 0
    · have HP:=hide (LP.pfl_bad hN (.inr ⟨by omega,.inl (by rw [hx0];exact h6)⟩))
      subst h6
      clear ha hl hN hk1 cl hw1 hxl hkn hx0 HCN
      go_enter Tryz.func28,Tryz.ntmps28
      go_upto_region 2 with fail
      clear hw0
      go_wp2_with fail
      go_ret
      rw [HP.out]
      exact ⟨rfl,HW.out⟩
    have b6:(x0 == 0) = false:=by simpa using h6
    by_cases h7:xl = 0
    · have HP:=hide (LP.pfl_bad hN (.inr ⟨by omega,.inr (by rw [hl,hk1,hxl];exact h7)⟩))
      subst h7
      clear ha hl hN hk1 hxl hx0 h6 HCN
      go_enter Tryz.func28,Tryz.ntmps28
      go_upto_region 2 with fail
      clear hw0
      go_wp2_with fail
      go_ret
      rw [HP.out]
      exact ⟨rfl,HW.out⟩
    have b7:(xl == 0) = false:=by simpa using h7
    have HP:=hide (LP.pfl_loop hN (by rw [hx0,hl,hk1,hxl];omega))
    clear ha hl hN hk1 hxl hx0 h6 h7
    obtain ⟨q,hq⟩:∃ q,xs.all LP.okC = q:=⟨_,rfl⟩
    rw [hq] at HP HCN
    clear hq
    go_enter Tryz.func28,Tryz.ntmps28
    go_upto_region 2 with fail
    clear hw0
    go_upto_region 6 with fail
    go_wp2_with fail
    refine HCN.out.mono ?_
    rintro e w1 ⟨rfl,rfl⟩
    cases q
    · go_wp2_with fail
      go_ret
      rw [HP.out]
      exact ⟨rfl,HW.out⟩
    · go_wp2_with fail
      go_ret
      rw [HP.out]
      exact ⟨rfl,HW.out⟩
end Go.Proofs.YtndgffiihbdppaaGreatDoor
namespace Go.Proofs.YtndgffiihbdppaaGreatDoor
set_option linter.unusedVariables false
set_option linter.unusedSimpArgs false
open Go.RowKit

set_option maxRecDepth 100000 in
set_option maxHeartbeats 2000000 in
theorem endOf_any (la:Int) (A:Option Addr) (n c:Nat) (w:World) (h1:la.natAbs ≤ 1000000) (h2:n ≤ 1000000) :
    Calls Tryz.prog 52 #[PV la A n c] w fun e w' => e = .returned (.int .i64 (la + n)) ∧ w' = w.alloc (.cells #[.int .i64 la,.slice A n c] 26):=by
  have hw:IntKind.i64.wrap (la + (n:Int)) = la + n:=by rw [IntKind.wrap_i64];omega
  have hb1:=Blk.new w 26 #[.int .i64 la,.slice A n c]
  obtain ⟨w0,hw0⟩:∃ x,w.alloc (.cells #[.int .i64 la,.slice A n c] 26) = x:=⟨_,rfl⟩
  rw [hw0] at hb1
  have hq0:=hb1.cell 0
  have hq1:=hb1.cell 1
  simp at hq0 hq1
  clear hb1
  have HW0:=hide hw0
  go_enter Tryz.func52,Tryz.ntmps52
  go_upto_region 1 with fail
  clear hw0
  go_wp2_with fail
  go_ret
  exact ⟨rfl,HW0.out.symm⟩
theorem eEndOf:∀ args w,(callFunc 52 args).run Tryz.prog w = .ok (.enter 52 args) w:=enters (fn:=Tryz.f52) (by kernel_rfl) (by kernel_rfl) (by kernel_rfl)

set_option maxRecDepth 100000 in
set_option maxHeartbeats 2000000 in
theorem coefficients_any (la:Int) (A:Option Addr) (n c:Nat) (w:World) :
    Calls Tryz.prog 29 #[PV la A n c] w fun e w' => e = .returned (.func (.func 51) #[] #[.pointer (some ⟨w.heap.size,0,none⟩)]) ∧ w' = w.alloc (.cells #[.int .i64 la,.slice A n c] 26):=by
  have hmf:∀ (fn:Fn) (first cap:Array Value) (w:World),(Instr.makeFunc fn first cap).run Tryz.prog w = .ok (.func fn first cap) w:=fun _ _ _ _ => rfl
  go_enter Tryz.func29,Tryz.ntmps29
  go_wp2_with fail
  go_ret
  exact ⟨rfl,rfl⟩
theorem eCoeffs:∀ args w,(callFunc 29 args).run Tryz.prog w = .ok (.enter 29 args) w:=enters (fn:=Tryz.f29) (by kernel_rfl) (by kernel_rfl) (by kernel_rfl)
theorem eCoeff:∀ args w,(callFunc 51 args).run Tryz.prog w = .ok (.enter 51 args) w:=enters (fn:=Tryz.f51) (by kernel_rfl) (by kernel_rfl) (by kernel_rfl)

set_option maxRecDepth 100000 in
set_option maxHeartbeats 2000000 in
theorem coeff_any (la:Int) (A:Option Addr) (n c:Nat) (xs:List Int) (b:Nat) (x:Int) (w:World) (ha:SL w A n c xs) (hb:Blk w b 26 #[.int .i64 la,.slice A n c]) (h1:la.natAbs ≤ 1000000) (h2:n ≤ 1000000) (h3:x.natAbs ≤ 100000000) :
    Calls Tryz.prog 51 #[.int .i64 x,.pointer (some ⟨b,0,none⟩)] w fun e w' => e = .returned (.int .i64 (LP.co (LP.of la xs) x)) ∧ Below w.heap.size w w':=by
  have hl:=ha.il.len
  have HC:Hid (LP.co (LP.of la xs) x = if la ≤ x ∧ x < la + n then xs.getD (x - la).toNat 0 else 0):=hide (by rw [LP.co_of,hl])
  have hq0:=hb.cell 0
  have hq1:=hb.cell 1
  simp at hq0 hq1
  have HE:=hide (endOf_any la A n c w h1 h2)
  have hbb:Below w.heap.size w (w.alloc (.cells #[.int .i64 la,.slice A n c] 26)):=(Below.refl _ _).alloc (Nat.le_refl _) _
  have HBB:=hide hbb
  by_cases hlo:x < la
  · have HR:Hid (LP.co (LP.of la xs) x = 0):=hide (by rw [HC.out,if_neg (by omega)])
    have HB0:=hide (Below.refl w.heap.size w)
    clear ha hb HE hbb HBB HC
    go_enter Tryz.func51,Tryz.ntmps51
    go_wp2_with fail
    go_ret
    rw [HR.out]
    exact ⟨rfl,HB0.out⟩
  by_cases hhi:la + n ≤ x
  · have HR:Hid (LP.co (LP.of la xs) x = 0):=hide (by rw [HC.out,if_neg (by omega)])
    clear ha hb hbb HC
    go_enter Tryz.func51,Tryz.ntmps51
    go_wp2_with fail
    refine HE.out.mono ?_
    rintro e w1 ⟨rfl,rfl⟩
    have HBB1:=hide HBB.out
    clear HBB hq0 hq1
    generalize w.alloc (.cells #[.int .i64 la,.slice A n c] 26) = w1 at *
    go_wp2_with fail
    go_ret
    rw [HR.out]
    exact ⟨rfl,HBB1.out⟩
  · obtain ⟨k,hk⟩:∃ k:Nat,x = la + k:=⟨(x - la).toNat,by omega⟩
    have hkn:k < n:=by omega
    have HR:Hid (LP.co (LP.of la xs) x = xs.getD k 0):=hide (by rw [HC.out,if_pos (by omega),show (x - la).toNat = k by omega])
    obtain ⟨ad,hA,hc⟩:=(ha.below hbb).il.at_ hkn
    have hq2:=(hb.below hbb hb.lt).cell 0
    have hq3:=(hb.below hbb hb.lt).cell 1
    simp at hq2 hq3
    have hw:IntKind.i64.wrap (la + (k:Int) - la) = k:=by rw [IntKind.wrap_i64];omega
    subst hA hk
    obtain ⟨y,hy⟩:∃ y,xs.getD k 0 = y:=⟨_,rfl⟩
    rw [hy] at hc HR
    clear hy
    have HC2:=hide hc
    have HQ2:=hide hq2
    have HQ3:=hide hq3
    clear ha hb hbb HC hc hq2 hq3
    go_enter Tryz.func51,Tryz.ntmps51
    go_wp2_with fail
    refine HE.out.mono ?_
    rintro e w1 ⟨rfl,rfl⟩
    have HBB1:=hide HBB.out
    clear HBB hq0 hq1
    have hc:=HC2.out
    have hq2:=HQ2.out
    have hq3:=HQ3.out
    clear HC2 HQ2 HQ3
    generalize w.alloc (.cells #[.int .i64 la,.slice (some ad) n c] 26) = w1 at *
    go_wp2_with fail
    go_ret
    rw [HR.out]
    exact ⟨rfl,HBB1.out⟩

def LP.pfl2 (la:Int) (xs:List Int) (lb:Int) (ys:List Int):Int:=if pfl la xs = 0 then pfl lb ys else pfl la xs
set_option maxRecDepth 100000 in
set_option maxHeartbeats 2000000 in
theorem checkBoth_any (la:Int) (A:Option Addr) (n c:Nat) (xs:List Int) (lb:Int) (B:Option Addr) (m d:Nat) (ys:List Int) (w:World) (ha:SL w A n c xs) (hb:SL w B m d ys) :
    Calls Tryz.prog 71 #[PV la A n c,PV lb B m d] w fun e w' => e = .returned (.int .i64 (LP.pfl2 la xs lb ys)) ∧ Below w.heap.size w w':=by
  have h1:Below w.heap.size w ((w.alloc (.cells #[.int .i64 la,.slice A n c] 26)).alloc (.cells #[.int .i64 lb,.slice B m d] 26)):=((Below.refl _ _).alloc (Nat.le_refl _) _).alloc (by simp) _
  have hB2:=Blk.new (w.alloc (.cells #[.int .i64 la,.slice A n c] 26)) 26 #[.int .i64 lb,.slice B m d]
  have HW:=hide h1
  have HA:=hide (lcheck_any la A n c xs _ (ha.below h1))
  have HBS:=hide (hb.below h1)
  simp only [World.size_alloc] at hB2
  have HB2:=hide hB2
  clear ha hb hB2 h1
  go_enter Tryz.func71,Tryz.ntmps71
  go_upto_region 1 with fail
  obtain ⟨w0,hw0⟩:∃ x,((w.alloc (.cells #[.int .i64 la,.slice A n c] 26)).alloc (.cells #[.int .i64 lb,.slice B m d] 26)) = x:=⟨_,rfl⟩
  have hB1:=(Blk.new w 26 #[.int .i64 la,.slice A n c]).alloc (.cells #[.int .i64 lb,.slice B m d] 26)
  rw [hw0] at HW HA HBS HB2 hB1 ⊢
  have hq0:=hB1.cell 0
  have hq1:=hB1.cell 1
  simp at hq0 hq1
  clear hw0 hB1
  go_wp2_with fail
  refine HA.out.mono ?_
  rintro e w1 ⟨rfl,hb⟩
  have HW1:=hide (HW.out.trans (hb.mono HW.out.size))
  have HB1:=hide (HBS.out.below hb)
  have hk:=HB2.out.below hb HB2.out.lt
  have hr0:=hk.cell 0
  have hr1:=hk.cell 1
  simp at hr0 hr1
  obtain ⟨p,hp⟩:∃ p,LP.pfl la xs = p:=⟨_,rfl⟩
  have HP:Hid (LP.pfl2 la xs lb ys = if p = 0 then LP.pfl lb ys else p):=hide (by unfold LP.pfl2;rw [hp])
  rw [hp]
  clear hb HA HBS HB2 hq0 hq1 hk hp
  by_cases h0:p = 0
  · subst h0
    go_wp2_with fail
    refine (lcheck_any lb B m d ys _ HB1.out).mono ?_
    rintro e w2 ⟨rfl,hb⟩
    have HW2:=hide (HW1.out.trans (hb.mono HW1.out.size))
    clear hb hr0 hr1
    go_wp2_with fail
    go_ret
    rw [HP.out,if_pos trivial]
    exact ⟨rfl,HW2.out⟩
  · have hne:(p != 0) = true:=by simpa using h0
    go_wp2_with fail
    go_ret
    rw [HP.out,if_neg h0]
    exact ⟨rfl,HW1.out⟩

set_option maxRecDepth 100000 in
set_option maxHeartbeats 2000000 in
theorem accepted_any (la:Int) (A:Option Addr) (n c:Nat) (xs:List Int) (w:World) (ha:SL w A n c xs) :
    Calls Tryz.prog 53 #[PV la A n c] w fun e w' => ∃ B m d,e = .returned (.tuple #[PV (LP.fitL la xs).2.1 B m d,.int .i64 (LP.fitL la xs).1]) ∧ SL w' B m d (LP.fitL la xs).2.2 ∧ (0 < m → B = A ∧ m = n) ∧ Below w.heap.size w w':=by
  have hb1:=(Blk.new w 26 #[.int .i64 la,.slice A n c]).alloc (.cells #[.int .i64 0,.slice none 0 0] 26)
  have hb2:=Blk.new (w.alloc (.cells #[.int .i64 la,.slice A n c] 26)) 26 #[.int .i64 0,.slice none 0 0]
  have hbw:Below w.heap.size w ((w.alloc (.cells #[.int .i64 la,.slice A n c] 26)).alloc (.cells #[.int .i64 0,.slice none 0 0] 26)):=((Below.refl _ _).alloc (Nat.le_refl _) _).alloc (by simp) _
  have HA:=hide (ha.below hbw)
  have HW:=hide hbw
  simp only [World.size_alloc] at hb2
  have B1:=hide hb1
  have B2:=hide hb2
  have hin:=ha.inside
  clear hb1 hb2 hbw ha
  have HI:=hide hin
  clear hin
  go_enter Tryz.func53,Tryz.ntmps53
  go_upto_region 1 with fail
  obtain ⟨w0,hw0⟩:∃ x,((w.alloc (.cells #[.int .i64 la,.slice A n c] 26)).alloc (.cells #[.int .i64 0,.slice none 0 0] 26)) = x:=⟨_,rfl⟩
  rw [hw0] at HA HW B1 B2 ⊢
  clear hw0
  have l1:=B1.out.lt
  have l2:=B2.out.lt
  have hq0:=B1.out.cell 0
  have hq1:=B1.out.cell 1
  simp at hq0 hq1
  go_wp2_with fail
  refine (lcheck_any la A n c xs _ HA.out).mono ?_
  rintro e w1 ⟨rfl,hb⟩
  replace HA:=hide (HA.out.below hb)
  replace HW:=hide (HW.out.trans (hb.mono HW.out.size))
  replace B1:=hide (B1.out.below hb l1)
  replace B2:=hide (B2.out.below hb l2)
  clear hb hq0 hq1 l1 l2
  have l1:=B1.out.lt
  have l2:=B2.out.lt
  have hq0:=B1.out.cell 0
  have hq1:=B1.out.cell 1
  simp at hq0 hq1
  have hr0:=B2.out.cell 0
  have hr1:=B2.out.cell 1
  simp at hr0 hr1
  have hf0:=B2.out.frozen 0
  have hf1:=B2.out.frozen 1
  have HB0:=hide (Below.refl w.heap.size w)
  by_cases hp:LP.pfl la xs = 0
  · have HR:Hid (LP.fitL la xs = (0,la,xs)):=hide (by unfold LP.fitL;rw [if_pos hp])
    rw [hp]
    go_wp2_with fail
    refine bodyPost_ret (results_pe rfl _ rfl rfl ((B2.out.set_ 0 (.int .i64 la)).set_ 1 (.slice A n c))) rfl ?_
    rw [HR.out]
    refine ⟨A,n,c,rfl,?_,fun _ => ⟨rfl,rfl⟩,?_⟩
    · exact (HA.out.setCell (fun h ad e => by have:=HI.out h ad e;omega) 0 _).setCell (fun h ad e => by have:=HI.out h ad e;omega) 1 _
    · exact (HW.out.setCell (p:=⟨w.heap.size + 1,0,none⟩) (by show w.heap.size ≤ w.heap.size + 1;omega) _).setCell (p:=⟨w.heap.size + 1,1,none⟩) (by show w.heap.size ≤ w.heap.size + 1;omega) _
  · have HR:Hid (LP.fitL la xs = (2,0,[])):=hide (by unfold LP.fitL;rw [if_neg hp])
    have hne:(LP.pfl la xs != 0) = true:=by simpa using hp
    clear hp
    go_wp2_with fail
    refine bodyPost_ret (results_pe rfl _ rfl rfl ((B2.out.set_ 0 (.int .i64 0)).set_ 1 (.slice none 0 0))) rfl ?_
    rw [HR.out]
    refine ⟨none,0,0,rfl,SL.nil_ _,fun h => absurd h (by omega),?_⟩
    exact (HW.out.setCell (p:=⟨w.heap.size + 1,0,none⟩) (by show w.heap.size ≤ w.heap.size + 1;omega) _).setCell (p:=⟨w.heap.size + 1,1,none⟩) (by show w.heap.size ≤ w.heap.size + 1;omega) _
end Go.Proofs.YtndgffiihbdppaaGreatDoor
namespace Go.Proofs.YtndgffiihbdppaaGreatDoor
set_option linter.unusedVariables false
set_option linter.unusedSimpArgs false
open Go.RowKit

def SameBlk (A B:Option Addr):Prop:=∃ ad ad',A = some ad ∧ B = some ad' ∧ ad'.block = ad.block
theorem SameBlk.new {w:World} {A B:Option Addr} {n m:Nat} (h:0 < m → SameBlk A B) (hn:0 < m → 0 < n) (hA:NewA w A n):NewA w B m:=fun hm ad e => by
  obtain ⟨a,b,e1,e2,e3⟩:=h hm
  rw [e] at e2
  injection e2 with e2
  rw [e2,e3]
  exact hA (hn hm) a e1

set_option maxRecDepth 100000 in
set_option maxHeartbeats 4000000 in
theorem trimmed_any (lo:Int) (A:Option Addr) (n c:Nat) (xs:List Int) (w:World) (ha:SL w A n c xs) (hlo:lo.natAbs ≤ 1000000) (hn:n ≤ 1000000) :
    Calls Tryz.prog 54 #[.int .i64 lo,.slice A n c] w fun e w' => ∃ B m d,e = .returned (PV (LP.canon (LP.of lo xs)).1 B m d) ∧ SL w' B m d (LP.canon (LP.of lo xs)).2 ∧ (0 < m → SameBlk A B) ∧ Below w.heap.size w w':=by
  have hln:=ha.il.len
  have hcap:=ha.cap
  have hin:=ha.inside
  have HCAN:Hid (∀ l cs,LP.Cano l cs → LP.of l cs = LP.of lo xs → LP.canon (LP.of lo xs) = (l,cs)):=hide (fun lo cs h1 h2 => LP.canon_eq h1 h2)
  have HW0:Hid (Below w.heap.size w (w.alloc (.cells #[.int .i64 0,.slice none 0 0] 26))):=hide ((Below.refl _ _).alloc (Nat.le_refl _) _)
  have HBK:Hid (Blk (w.alloc (.cells #[.int .i64 0,.slice none 0 0] 26)) w.heap.size 26 #[.int .i64 0,.slice none 0 0]):=hide (Blk.new _ _ _)
  have HSL:=hide (ha.below HW0.out)
  have HIN:=hide hin
  have hRL:Hid (xs.length = n):=hide hln
  clear ha hin
  generalize LP.canon (LP.of lo xs) = P at *
  go_enter Tryz.func54,Tryz.ntmps54
  go_upto_region 1 with fail
  obtain ⟨w0,hw0⟩:∃ x,w.alloc (.cells #[.int .i64 0,.slice none 0 0] 26) = x:=⟨_,rfl⟩
  rw [hw0] at HW0 HBK HSL ⊢
  clear hw0
  have hf0:=HBK.out.frozen 0
  have hf1:=HBK.out.frozen 1
  have hc0:=HBK.out.cell 0
  have hc1:=HBK.out.cell 1
  simp at hc0 hc1
  have hbw:=HBK.out.lt
  go_loop [1] (fun cv => ∃ k:Nat,cv = .slice A k c ∧ k ≤ n ∧ Hid (∀ j,k ≤ j → j < n → xs.getD j 0 = 0)) (fun cv => lenV cv)
  case atStart => exact ⟨n,rfl,Nat.le_refl _,hide (fun j h1 h2 => absurd h2 (by omega))⟩
  case round =>
    obtain ⟨k,rfl,hk,HZT⟩:=hrel
    by_cases hk0:k = 0
    · subst hk0
      have HP:Hid (P = (0,[])):=hide (HCAN.out 0 [] (.inl ⟨rfl,rfl⟩) (LP.of_zeros lo fun j hj => HZT.out j (Nat.zero_le _) (by rw [hRL.out] at hj;exact hj)))
      go_wp2_with fail
      refine wp_loop_rounds 1 ?_
      rw [rounds_succ]
      go_wp2_with fail
      refine bodyPost_ret (results_poly rfl _ rfl ((HBK.out.set_ 0 (.int .i64 0)).set_ 1 (.slice none 0 0))) rfl ?_
      rw [HP.out]
      exact ⟨none,0,0,rfl,SL.nil_ _,fun h => absurd h (by omega),(HW0.out.setCell (p:=⟨w.heap.size,0,none⟩) (Nat.le_refl _) _).setCell (p:=⟨w.heap.size,1,none⟩) (Nat.le_refl _) _⟩
    · obtain ⟨ad,hA,hcl⟩:=HSL.out.il.at_ (k:=k - 1) (by omega)
      subst hA
      obtain ⟨y,hy⟩:∃ y,xs.getD (k - 1) 0 = y:=⟨_,rfl⟩
      rw [hy] at hcl
      have HY:=hide hy
      have hmg2:decide ((0:Int) < (k:Int)) = true:=decide_eq_true (by omega)
      have hp2:((k:Int) - 1).toNat = k - 1:=by omega
      clear hy
      by_cases hy0:y = 0
      · have hye:(y == 0) = true:=by simp [hy0]
        have HZT2:Hid (∀ j,k - 1 ≤ j → j < n → xs.getD j 0 = 0):=hide (fun j h1 h2 => by
          by_cases e:j = k - 1
          · subst e;rw [HY.out];exact hy0
          · exact HZT.out j (by omega) h2)
        clear hy0 HY
        go_wp2_with fail
        go_round
        case rel => exact ⟨k - 1,rfl,by omega,HZT2⟩
        case measure => simp [lenV];omega
      · have hye:(y == 0) = false:=by simpa using hy0
        have HE:=hide (HSL.out.init_ (k:=k) hk (by simp))
        have hab:ad.block < w.heap.size:=HIN.out (by omega) ad rfl
        clear HSL
        go_wp2_with fail
        go_loop [0,1] (fun lv cv => ∃ (i m d:Nat) (ad':Addr),lv = .int .i64 (lo + i) ∧ cv = .slice (some ad') m d ∧ i + m = k ∧ SL w0 (some ad') m d ((xs.take k).drop i) ∧ ad'.block = ad.block ∧ 0 < m ∧ Hid (∀ j,j < i → xs.getD j 0 = 0)) (fun _ cv => lenV cv)
        case atStart => exact ⟨0,k,c,ad,by simp,rfl,by omega,by rw [List.drop_zero];exact HE.out,rfl,by omega,hide (fun j hj => absurd hj (by omega))⟩
        case round =>
          clear HE hcl
          obtain ⟨i,m,d,ad',rfl,rfl,him,hsl,hblk,hm0,HZ⟩:=hrel
          have HSL:=hide hsl
          have hmd:=hsl.cap
          have HBLK:=hide hblk
          clear hsl hblk
          obtain ⟨ad2,e2,hc⟩:=HSL.out.il.at_ (k:=0) hm0
          injection e2 with e2
          subst e2
          rw [show ad'.add 0 = ad' by unfold Addr.add;simp] at hc
          have hCi:((xs.take k).drop i).getD 0 0 = xs.getD i 0:=by simp [List.getD,List.getElem?_take,show i < k by omega]
          rw [hCi] at hc
          have hmg:decide ((0:Int) < (m:Int)) = true:=decide_eq_true (by omega)
          obtain ⟨x,hx⟩:∃ x,xs.getD i 0 = x:=⟨_,rfl⟩
          rw [hx] at hc
          have HX:=hide hx
          clear hx hCi
          by_cases hx0:x = 0
          · have hxe:(x == 0) = true:=by simp [hx0]
            have hm1:1 < m:=by
              by_cases h:m = 1
              · have e1:=HY.out
                have e2:=HX.out
                rw [show k - 1 = i by omega,e2] at e1
                exact absurd (e1.symm.trans hx0) hy0
              · omega
            have hd1:d ≠ 1:=by omega
            have HT:Hid (SL w0 (some ⟨ad'.block,ad'.off + 1,none⟩) (m - 1) (d - 1) ((xs.take k).drop (i + 1))):=hide (by
              have h:=HSL.out.tail_ (by omega)
              rw [if_neg hd1] at h
              rwa [List.drop_drop] at h)
            have HZ2:Hid (∀ j,j < i + 1 → xs.getD j 0 = 0):=hide (fun j hj => by
              by_cases e:j = i
              · subst e;rw [HX.out];exact hx0
              · exact HZ.out j (by omega))
            clear hx0 HX hy0
            go_wp2_with fail
            go_round
            case rel => exact ⟨i + 1,m - 1,d - 1,_,by go_num,rfl,by omega,HT.out,HBLK.out,by omega,HZ2⟩
            case measure => simp [lenV];omega
          · have hxe:(x == 0) = false:=by simpa using hx0
            have hme:((m:Int) == 0) = false:=by simp;omega
            have hll:((xs.take k).drop i).length = m:=HSL.out.il.len
            have HP:Hid (P = (lo + i,(xs.take k).drop i)):=hide (HCAN.out _ _ (.inr ⟨fun e => by
              rw [e] at hll
              simp at hll
              omega,by
              rw [show ((xs.take k).drop i).getD 0 0 = xs.getD i 0 by simp [List.getD,List.getElem?_take,show i < k by omega],HX.out]
              exact hx0,by
              rw [hll]
              rw [show ((xs.take k).drop i).getD (m - 1) 0 = xs.getD (k - 1) 0 by simp [List.getD,List.getElem?_take,show k - 1 < k by omega,show i + (m - 1) = k - 1 by omega],HY.out]
              exact hy0⟩) (by
                have h:=LP.of_trim (C:=xs) lo (i:=i) (m:=m) (by rw [hRL.out];omega) HZ.out (fun j h1 h2 => HZT.out j (by omega) (by rw [hRL.out] at h2;exact h2))
                rw [← h]
                congr 1
                rw [List.drop_take,show k - i = m by omega]))
            clear hx0 hy0 HX HY hll
            go_wp2_with fail
            refine bodyPost_ret (results_poly rfl _ rfl ((HBK.out.set_ 0 (.int .i64 (lo + i))).set_ 1 (.slice (some ad') m d))) rfl ?_
            rw [HP.out]
            refine ⟨some ad',m,d,rfl,?_,fun _ => ⟨ad,ad',rfl,rfl,HBLK.out⟩,(HW0.out.setCell (p:=⟨w.heap.size,0,none⟩) (Nat.le_refl _) _).setCell (p:=⟨w.heap.size,1,none⟩) (Nat.le_refl _) _⟩
            have hblk:=HBLK.out
            exact (HSL.out.setCell (fun _ a e => by injection e with e;subst e;omega) 0 _).setCell (fun _ a e => by injection e with e;subst e;omega) 1 _
end Go.Proofs.YtndgffiihbdppaaGreatDoor
namespace Go.Proofs.YtndgffiihbdppaaGreatDoor
set_option linter.unusedVariables false
set_option linter.unusedSimpArgs false
open Go.RowKit

structure AnsI (P:Program) (fid:FuncId) (caps:List Value) (base:Nat) (w:World) (lo hi:Int) (F:Int → Int):Prop where
  ent:∀ args w,(callFunc fid args).run P w = .ok (.enter fid args) w
  call:∀ w',Below base w w' → ∀ e:Int,lo ≤ e → e < hi → Calls P fid (.int .i64 e :: caps).toArray w' fun r w'' => r = .returned (.int .i64 (F e)) ∧ Below w'.heap.size w' w''
def collK (n:Nat) (f:Nat → Int) (k:Nat):List Int:=(List.range n).map fun j => if j < k then f j else 0
theorem collK_length (n:Nat) (f:Nat → Int) (k:Nat):(collK n f k).length = n:=by simp [collK]
theorem collK_zero (n:Nat) (f:Nat → Int):collK n f 0 = List.replicate n 0:=by
  refine List.ext_getElem (by simp [collK]) fun i h1 h2 => ?_
  simp [collK]
theorem collK_set {n:Nat} (f:Nat → Int) {k:Nat} (hk:k < n):(collK n f k).set k (f k) = collK n f (k + 1):=by
  refine List.ext_getElem (by simp [collK]) fun i h1 h2 => ?_
  rw [List.getElem_set]
  simp only [collK,List.getElem_map,List.getElem_range]
  by_cases h:k = i
  · subst h;simp
  · rw [if_neg h]
    by_cases h3:i < k
    · rw [if_pos h3,if_pos (by omega)]
    · rw [if_neg h3,if_neg (by omega)]
theorem collK_getD {n:Nat} (f:Nat → Int) {k j:Nat} (hj:j < n):(collK n f k).getD j 0 = if j < k then f j else 0:=by simp [collK,List.getD,hj]
theorem collK_of {n:Nat} {z:LP} {lo:Int} (hz:∀ k,LP.co z k ≠ 0 → lo ≤ k ∧ k < lo + n):LP.of lo (collK n (fun j => LP.co z (lo + j)) n) = z:=LP.ext fun k => by
  rw [LP.co_of,collK_length]
  by_cases h:lo ≤ k ∧ k < lo + n
  · rw [if_pos h,collK_getD _ (by omega),if_pos (by omega),show lo + ((k - lo).toNat:Int) = k by omega]
  · rw [if_neg h]
    by_cases h0:LP.co z k = 0
    · exact h0.symm
    · exact absurd (hz k h0) h

set_option maxRecDepth 100000 in
set_option maxHeartbeats 4000000 in
theorem collect_any {fid:FuncId} {caps:List Value} (lo:Int) (n:Nat) (z:LP) (w:World) (H:AnsI Tryz.prog fid caps w.heap.size w lo (lo + n) (LP.co z)) (hz:∀ k,LP.co z k ≠ 0 → lo ≤ k ∧ k < lo + n) (hlo:lo.natAbs ≤ 100000) (hn:n ≤ 100000) :
    Calls Tryz.prog 30 #[.int .i64 lo,.int .i64 (lo + n),.func (.func fid) #[] caps.toArray] w (GivesPE w (LP.fit z)):=by
  obtain ⟨i0,hi0,hz0,hz1,hz2⟩:=info_parts int_info
  have HF:Hid (LP.fit z = LP.fitL (LP.canon z).1 (LP.canon z).2):=hide rfl
  have HOF:=hide (collK_of (n:=n) hz)
  have HCA:=hide H.call
  have hent:=H.ent
  have HW0:Hid (Below w.heap.size w (w.alloc (.cells #[.int .i64 0,.slice none 0 0] 26))):=hide ((Below.refl _ _).alloc (Nat.le_refl _) _)
  have HBK:Hid (Blk (w.alloc (.cells #[.int .i64 0,.slice none 0 0] 26)) w.heap.size 26 #[.int .i64 0,.slice none 0 0]):=hide (Blk.new _ _ _)
  have hwn:IntKind.i64.wrap (lo + (n:Int) - lo) = n:=by rw [IntKind.wrap_i64];omega
  clear H hz
  generalize LP.fit z = R at *
  go_enter Tryz.func30,Tryz.ntmps30
  go_upto_region 1 with fail
  obtain ⟨w0,hw0⟩:∃ x,w.alloc (.cells #[.int .i64 0,.slice none 0 0] 26) = x:=⟨_,rfl⟩
  have hs0:w0.heap.size = w.heap.size + 1:=by rw [← hw0];simp
  rw [hw0] at HW0 HBK ⊢
  clear hw0
  go_wp2_with (at_make;refine wpList_make_full _ rfl _ _ 23 rfl (w.heap.size + 1) 3 i0 (.int .i64 0) 1 Tryz.underlying23 hi0 hz0 hz1 .i64 .i64 _ _ n rfl rfl rfl rfl (by rw [hz2];omega) (by unfold maxLen;omega) (by rw [hs0];exact Nat.le_refl _) ?_;intro w2 hown2 hg2)
  have hB2:Below w.heap.size w w2:=HW0.out.trans ((Below.refl _ _).grown hg2 HW0.out.size (by intro k hk;cases hk))
  have hown3:=OwnI.zero (z:=#[]) hown2 (by omega)
  have hbk2:=HBK.out.grown hg2 (by simp)
  have HO:=hide hown3
  have HB:=hide hB2
  have HK:=hide hbk2
  clear hown2 hg2 hB2 hown3 hbk2 HBK HW0 hz0 hz1 hz2 hi0
  rw [hs0] at HO
  obtain ⟨g,hg⟩:∃ g,w.heap.size + 1 = g:=⟨_,rfl⟩
  rw [hg] at HO ⊢
  clear hs0
  go_loopw [16] (fun iv wr => ∃ k:Nat,k ≤ n ∧ iv = .int .i64 k ∧ OwnI wr g (some ⟨g,0,none⟩) n n (collK n (fun j => LP.co z (lo + j)) k) ∧ Blk wr w.heap.size 26 #[.int .i64 0,.slice none 0 0] ∧ Below w.heap.size w wr) (fun iv _ => n - (intOf iv).toNat)
  case atStart => exact ⟨0,Nat.zero_le _,rfl,by rw [collK_zero];exact HO.out,HK.out,HB.out⟩
  case round =>
    clear HO HK HB
    obtain ⟨k,hk,rfl,ho,hbk,hb⟩:=hrel
    have HO:=hide ho
    have HK:=hide hbk
    have HB:=hide hb
    clear ho hbk hb
    by_cases hlt:k < n
    · have HC:=hide (HCA.out wr HB.out (lo + k) (by omega) (by omega))
      have HS:=hide (collK_set (n:=n) (fun j => LP.co z (lo + j)) hlt)
      obtain ⟨y,hy⟩:∃ y,LP.co z (lo + k) = y:=⟨_,rfl⟩
      have HS2:Hid ((collK n (fun j => LP.co z (lo + j)) k).set k y = collK n (fun j => LP.co z (lo + j)) (k + 1)):=hide (by rw [← hy];exact HS.out)
      rw [hy] at HC
      clear HS hy
      have hwl:IntKind.i64.wrap (lo + (k:Int)) = lo + k:=by rw [IntKind.wrap_i64];omega
      go_wp2_with fail
      refine HC.out.mono ?_
      rintro e w1 ⟨rfl,hb⟩
      have HO1:=hide (HO.out.below hb)
      have HK1:=hide (HK.out.below hb HK.out.lt)
      have HB1:=hide (HB.out.trans (hb.mono HB.out.size))
      clear hb HO HK HB HC
      have hcell:=HO1.out.cell hlt
      have hfr:=HO1.out.frozen k
      have HN:=HO1.out.set_ k y
      rw [HS2.out] at HN
      have HN:=hide HN
      have hgl:w.heap.size < g:=by omega
      have HKn:=hide (HK1.out.far (p:=⟨g,k,none⟩) (show w.heap.size ≠ g by omega) (.int .i64 y))
      have HBn:=hide (HB1.out.setCell (p:=⟨g,k,none⟩) (show w.heap.size ≤ g by omega) (.int .i64 y))
      generalize (collK n (fun j => LP.co z (lo + j)) k).getD k 0 = y0 at *
      clear HO1 HK1 HB1 HS2
      go_wp2_with fail
      go_roundw
      case rel => exact ⟨k + 1,by omega,by go_num,HN.out,HKn.out,HBn.out⟩
      case measure => simp [intOf];omega
    · have hkn:k = n:=by omega
      have hsl:=HO.out.sl
      rw [hkn] at hsl
      have HSL:=hide hsl
      subst hkn
      clear HO HCA hsl
      have hf0:=HK.out.frozen 0
      have hf1:=HK.out.frozen 1
      have hc0:=HK.out.cell 0
      have hc1:=HK.out.cell 1
      simp at hc0 hc1
      have hbw:=HK.out.lt
      have HT:=hide (trimmed_any lo (some ⟨g,0,none⟩) k k _ wr HSL.out (by omega) (by omega))
      rw [HOF.out] at HT
      generalize LP.canon z = C at *
      go_wp2_with fail
      refine HT.out.mono ?_
      rintro e w1 ⟨B,m,d,rfl,hsl,hbl,hb⟩
      have HSL1:=hide hsl
      have HBL:=hide hbl
      have HB1:=hide (HB.out.trans (hb.mono HB.out.size))
      have HK1:=hide (HK.out.below hb HK.out.lt)
      clear hsl hbl hb HB HK HT hf0 hf1 hc0 hc1 hbw HSL
      go_wp2_with fail
      refine (accepted_any C.1 B m d C.2 w1 HSL1.out).mono ?_
      rintro e w2 ⟨B2,m2,d2,rfl,hsl,hbl,hb⟩
      rw [← HF.out] at hsl ⊢
      have HSL2:=hide hsl
      have HBL2:=hide hbl
      have HB2:=hide (HB1.out.trans (hb.mono HB1.out.size))
      have HK2:=hide (HK1.out.below hb HK1.out.lt)
      clear hsl hbl hb HB1 HK1 HSL1
      have hf0:=HK2.out.frozen 0
      have hf1:=HK2.out.frozen 1
      have hc0:=HK2.out.cell 0
      have hc1:=HK2.out.cell 1
      simp at hc0 hc1
      have hbw:=HK2.out.lt
      have HFAR:Hid (0 < m2 → ∀ ad,B2 = some ad → w.heap.size < ad.block):=hide (fun h ad e => by
        obtain ⟨h1,h2⟩:=HBL2.out h
        obtain ⟨a,b,e1,e2,e3⟩:=HBL.out (by omega)
        rw [h1,e2] at e
        injection e with e
        injection e1 with e1
        rw [← e,e3,← e1]
        show w.heap.size < g
        omega)
      clear HBL HBL2 HOF
      obtain ⟨e0,l0,c0⟩:=R
      go_wp2_with fail
      refine bodyPost_ret (results_pe rfl _ rfl rfl ((HK2.out.set_ 0 (.int .i64 l0)).set_ 1 (.slice B2 m2 d2))) rfl ?_
      refine ⟨B2,m2,d2,rfl,?_,fun h ad e => by have:=HFAR.out h ad e;omega,?_⟩
      · exact (HSL2.out.setCell (fun h ad e => by have:=HFAR.out h ad e;omega) 0 _).setCell (fun h ad e => by have:=HFAR.out h ad e;omega) 1 _
      · exact (HB2.out.setCell (p:=⟨w.heap.size,0,none⟩) (Nat.le_refl _) _).setCell (p:=⟨w.heap.size,1,none⟩) (Nat.le_refl _) _
theorem eCollect:∀ args w,(callFunc 30 args).run Tryz.prog w = .ok (.enter 30 args) w:=enters (fn:=Tryz.f30) (by kernel_rfl) (by kernel_rfl) (by kernel_rfl)
end Go.Proofs.YtndgffiihbdppaaGreatDoor
