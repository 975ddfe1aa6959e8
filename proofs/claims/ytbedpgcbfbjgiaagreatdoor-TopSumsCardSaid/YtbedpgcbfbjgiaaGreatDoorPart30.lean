/- Several texts in one. -/
import Derived.Test.YtbedpgcbfbjgiaaGreatDoorPart29
import Derived.Test.YtbedpgcbfbjgiaaGreatDoorPart2
namespace Go.Proofs.YtbedpgcbfbjgiaaGreatDoor
set_option linter.unusedVariables false
set_option linter.unusedSimpArgs false
open Go.RowKit

def putP (w:World) (b:Nat) (lo:Int) (A:Option Addr) (n c:Nat):World:=(w.setCell ⟨b,0,none⟩ (.int .i64 lo)).setCell ⟨b,1,none⟩ (.slice A n c)
def NewK (K:Nat) (A:Option Addr) (n:Nat):Prop:=0 < n → ∀ ad,A = some ad → K ≤ ad.block
theorem SL.put {w:World} {A:Option Addr} {n c:Nat} {xs:List Int} (h:SL w A n c xs) {K b:Nat} (hk:NewK K A n) (hb:b < K) (lo:Int) (B:Option Addr) (m d:Nat):SL (putP w b lo B m d) A n c xs:=
  (h.setCell (fun hn ad e => by have:=hk hn ad e;omega) 0 _).setCell (fun hn ad e => by have:=hk hn ad e;omega) 1 _
theorem Blk.put {w:World} {t:TypeId} {b:Nat} {x y:Value} (h:Blk w b t #[x,y]) (lo:Int) (B:Option Addr) (m d:Nat):Blk (putP w b lo B m d) b t #[.int .i64 lo,.slice B m d]:=by
  have h2:=(h.set_ 0 (.int .i64 lo)).set_ 1 (.slice B m d)
  simpa [putP] using h2
theorem Blk.putFar {w:World} {t:TypeId} {g b:Nat} {cs:Array Value} (h:Blk w g t cs) (hg:g ≠ b) (lo:Int) (B:Option Addr) (m d:Nat):Blk (putP w b lo B m d) g t cs:=
  (h.far (p:=⟨b,0,none⟩) hg _).far (p:=⟨b,1,none⟩) hg _
theorem below_put {base b:Nat} {w w':World} (h:Below base w w') (hb:base ≤ b) (lo:Int) (B:Option Addr) (m d:Nat):Below base w (putP w' b lo B m d):=
  (h.setCell (p:=⟨b,0,none⟩) hb _).setCell (p:=⟨b,1,none⟩) hb _
theorem size_put (w:World) (b:Nat) (lo:Int) (B:Option Addr) (m d:Nat):(putP w b lo B m d).heap.size = w.heap.size:=by simp [putP]
set_option maxRecDepth 100000 in
set_option maxHeartbeats 8000000 in
theorem topSums_any (FP:PolyC) (F:AlexC) (FJ:JonesC) (FC:ColC) (n0 m0:Int) (A0:Option Addr) (al ac:Nat) (us:List Int) (B0:Option Addr) (bl bc:Nat) (vs:List Int) (w:World) (ha:SL w A0 al ac us) (hb:SL w B0 bl bc vs) (hTb:TabW w) :
    Calls Tryz.prog 3 #[.int .i64 n0,.int .i64 m0,.slice A0 al ac,.slice B0 bl bc] w fun e w' => e = .returned (.bool true) ∧ Below w.heap.size w w':=by
  have HT:=hide (trefoil_t F FJ FC)
  have HTB:=hide hTb
  clear hTb
  have HF:=hide F
  have HFJ:=hide FJ
  have HFP:=hide FP
  have HA:=hide ha
  have HB:=hide hb
  clear F FJ FC FP ha hb
  go_enter Tryz.func3,Tryz.ntmps3
  go_wp2_with fail
  refine (strands_gen n0 2 3 rfl (by omega) (by omega) w).mono ?_
  rintro e w0 ⟨T,t1,t2,rfl,hww⟩
  subst hww
  go_wp2_with fail
  refine (strands_gen m0 2 3 rfl (by omega) (by omega) w).mono ?_
  rintro e w0 ⟨S,s1,s2,rfl,hww⟩
  subst hww
  obtain ⟨nn,hnn⟩:∃ z,(T:Int) + 1 = z:=⟨_,rfl⟩
  obtain ⟨mm,hmm⟩:∃ z,(S:Int) + 1 = z:=⟨_,rfl⟩
  obtain ⟨kk,hkk⟩:∃ z,(T:Int) + S + 2 = z:=⟨_,rfl⟩
  obtain ⟨jj,hjj⟩:∃ z,(T:Int) + S + 1 = z:=⟨_,rfl⟩
  have f1:IntKind.i64.wrap (nn - 1) = (T:Int):=by rw [IntKind.wrap_i64];omega
  have f2:IntKind.i64.wrap (mm - 1) = (S:Int):=by rw [IntKind.wrap_i64];omega
  have f3:IntKind.i64.wrap (nn + mm) = kk:=by rw [IntKind.wrap_i64];omega
  have f4:IntKind.i64.wrap (kk - 1) = jj:=by rw [IntKind.wrap_i64];omega
  have HWN:=hide (wfI (x:=nn) (by omega))
  have HWM:=hide (wfI (x:=mm) (by omega))
  have HWK:=hide (wfI (x:=kk) (by omega))
  have HWJ:=hide (wfI (x:=jj) (by omega))
  have HTN:Hid (nn = ((T + 1:Nat):Int)):=hide (by omega)
  rw [hnn,hmm]
  have HEQ:=hide (show (T:Int) + 1 = nn ∧ (S:Int) + 1 = mm ∧ (T:Int) + S + 2 = kk ∧ (T:Int) + S + 1 = jj from ⟨hnn,hmm,hkk,hjj⟩)
  clear hnn hmm hkk hjj
  go_wp2_with fail
  refine (word_any A0 T al ac 6 us w HA.out.il HA.out.cap (by omega) (by omega) (by omega)).mono ?_
  rintro e w1 ⟨xs,X,xn,xc,rfl,ho,hx,hxn,hb⟩
  have hxl:=ho.len
  have SX:=hide ho.sl
  have HW:=hide hb
  replace HB:=hide (HB.out.below hb)
  clear ho hb HA
  go_wp2_with fail
  refine (word_any B0 S bl bc 6 vs w1 HB.out.il HB.out.cap (by omega) (by omega) (by omega)).mono ?_
  rintro e w2 ⟨ys,Y,yn,yc,rfl,ho,hy,hyn,hb⟩
  have hyl:=ho.len
  have SY:=hide ho.sl
  replace HW:=hide (HW.out.trans (hb.mono HW.out.size))
  replace SX:=hide (SX.out.below hb)
  clear ho hb HB
  obtain ⟨lp,lq,lr,ls,cp,cq,cr,cs,ap,aq,ar,j1,j2,j3,j4,m1,m2,wf3,a1,a2,a3,a4,m3⟩:=sums_num t1 t2 s1 s2 (xs:=xs) (ys:=ys) (fun x h => by have:=hx x h;omega) (fun x h => by have:=hy x h;omega) (by omega) (by omega)
  rw [HEQ.out.1] at j1 a1
  rw [HEQ.out.2.1] at j2 a2
  rw [HEQ.out.2.2.2] at j3 a3
  rw [HEQ.out.2.2.1] at j4 a4
  have HJ1:=hide j1
  have HJ2:=hide j2
  have HJ3:=hide j3
  have HJ4:=hide j4
  have HM1:=hide m1
  have HM2:=hide m2
  have HM3:=hide m3
  have HWF:=hide wf3
  have HA1:=hide a1
  have HA2:=hide a2
  have HA3:=hide a3
  have HA4:=hide a4
  clear j1 j2 j3 j4 m1 m2 m3 wf3 a1 a2 a3 a4 HEQ
  have HYB:Hid (∀ y ∈ ys,y.natAbs ≤ 6):=hide (fun y h => by have:=hy y h;omega)
  have ht6:T ≤ 6:=by omega
  have ht61:T + 1 ≤ 6:=by omega
  have HFX:Hid (alF nn xs):=hide (alF_short (by omega))
  have HFY:Hid (alF mm ys):=hide (alF_short (by omega))
  have HFZ:Hid (∀ v:Nat,alF jj (xs ++ shW v ys)):=hide (fun v => alF_short (by simp only [List.length_append,shW,List.length_map];omega))
  have HFK:Hid (∀ v:Nat,alF kk (xs ++ shW v ys)):=hide (fun v => alF_short (by simp only [List.length_append,shW,List.length_map];omega))
  clear hx hy hxl hyl t1 t2 s1 s2
  go_upto_region 3 with fail
  obtain ⟨b,hsz⟩:∃ q,w2.heap.size = q:=⟨_,rfl⟩
  have HZb:=hide hsz
  rw [hsz] at  ⊢
  have hb:Below w2.heap.size w2 (w2.alloc (.cells #[.slice X xn xc] 22)):=(Below.refl _ _).alloc (Nat.le_refl _) _
  have B9:=hide (Blk.new w2 22 #[.slice X xn xc])
  replace HW:=hide (HW.out.trans (hb.mono HW.out.size))
  replace SX:=hide (SX.out.below hb)
  replace SY:=hide (SY.out.below hb)
  rw [hsz] at B9
  obtain ⟨w11,hw⟩:∃ x,w2.alloc (.cells #[.slice X xn xc] 22) = x:=⟨_,rfl⟩
  replace hsz:w11.heap.size = b + 1:=by rw [← hw,World.size_alloc,hsz]
  rw [hw] at B9 HW SX SY ⊢
  clear hb hw
  have hb:Below w11.heap.size w11 (w11.alloc (.cells #[.slice Y yn yc] 22)):=(Below.refl _ _).alloc (Nat.le_refl _) _
  have B10:=hide (Blk.new w11 22 #[.slice Y yn yc])
  replace HW:=hide (HW.out.trans (hb.mono HW.out.size))
  replace SX:=hide (SX.out.below hb)
  replace SY:=hide (SY.out.below hb)
  replace B9:=hide (B9.out.below hb B9.out.lt)
  rw [hsz] at B10
  obtain ⟨w12,hw⟩:∃ x,w11.alloc (.cells #[.slice Y yn yc] 22) = x:=⟨_,rfl⟩
  replace hsz:w12.heap.size = b + 1 + 1:=by rw [← hw,World.size_alloc,hsz]
  rw [hw] at B10 HW SX SY B9 ⊢
  clear hb hw
  clear hsz
  have HS0:Hid (∀ w',Below w12.heap.size w12 w' → Calls Tryz.prog 6 #[.int .i64 (T:Int),.pointer (some ⟨b,0,none⟩),.pointer (some ⟨b + 1,0,none⟩)] w' (GivesOwn w' (xs ++ shW T ys))):=hide (fun w' h => shifted_any T b (b + 1) X xn xc xs Y yn yc ys w' (B9.out.below h B9.out.lt) (B10.out.below h B10.out.lt) (SX.out.below h) (SY.out.below h) ht6 hxn hyn HYB.out)
  have HS1:Hid (∀ w',Below w12.heap.size w12 w' → Calls Tryz.prog 6 #[.int .i64 nn,.pointer (some ⟨b,0,none⟩),.pointer (some ⟨b + 1,0,none⟩)] w' (GivesOwn w' (xs ++ shW (T + 1) ys))):=hide (fun w' h => by rw [HTN.out];exact shifted_any (T + 1) b (b + 1) X xn xc xs Y yn yc ys w' (B9.out.below h B9.out.lt) (B10.out.below h B10.out.lt) (SX.out.below h) (SY.out.below h) ht61 hxn hyn HYB.out)
  have HKX:Hid (∀ w',Below w12.heap.size w12 w' → Blk w' b 22 #[.slice X xn xc] ∧ SL w' X xn xc xs):=hide (fun w' h => ⟨B9.out.below h B9.out.lt,SX.out.below h⟩)
  have HKY:Hid (∀ w',Below w12.heap.size w12 w' → Blk w' (b + 1) 22 #[.slice Y yn yc] ∧ SL w' Y yn yc ys):=hide (fun w' h => ⟨B10.out.below h B10.out.lt,SY.out.below h⟩)
  have HZ:Hid (Below w12.heap.size w12 w12):=hide (Below.refl _ _)
  have HW0:=HW
  clear HW B9 B10 SX SY HYB ht6 ht61 hxn hyn HTN HZb
  have hc9:=(HKX.out _ HZ.out).1.cell 0
  simp at hc9
  go_wp2_with fail
  refine (HFJ.out.poly nn X xn xc xs _ (HKX.out _ HZ.out).2 HWN.out).mono ?_
  rintro e w13 ⟨P,pn,pc,rfl,hs,hn,hb⟩
  replace HZ:=hide (HZ.out.trans (hb.mono HZ.out.size))
  dsimp only at hs ⊢
  rw [HJ1.out.1,HJ1.out.2]
  rw [HJ1.out.2] at hs
  have SP:=hide hs
  clear hb hs hn hc9
  go_upto_region 5 with fail
  have hb:Below w13.heap.size w13 (w13.alloc (.cells #[.int .i64 lp,.slice P pn pc] 28)):=(Below.refl _ _).alloc (Nat.le_refl _) _
  have BP:=hide (Blk.new w13 28 #[.int .i64 lp,.slice P pn pc])
  have LBP:w12.heap.size ≤ w13.heap.size:=HZ.out.size
  replace HZ:=hide (HZ.out.trans (hb.mono HZ.out.size))
  replace SP:=hide (SP.out.below hb)
  obtain ⟨bP,hq⟩:∃ q,w13.heap.size = q:=⟨_,rfl⟩
  obtain ⟨w14,hw⟩:∃ x,w13.alloc (.cells #[.int .i64 lp,.slice P pn pc] 28) = x:=⟨_,rfl⟩
  rw [hw] at BP HZ SP ⊢
  rw [hq] at BP LBP  ⊢
  clear hb hw hq
  have hc9:=(HKY.out _ HZ.out).1.cell 0
  simp at hc9
  go_wp2_with fail
  refine (HFJ.out.poly mm Y yn yc ys _ (HKY.out _ HZ.out).2 HWM.out).mono ?_
  rintro e w15 ⟨Q,qn,qc,rfl,hs,hn,hb⟩
  replace HZ:=hide (HZ.out.trans (hb.mono HZ.out.size))
  replace SP:=hide (SP.out.below hb)
  replace BP:=hide (BP.out.below hb BP.out.lt)
  dsimp only at hs ⊢
  rw [HJ2.out.1,HJ2.out.2]
  rw [HJ2.out.2] at hs
  have SQ:=hide hs
  clear hb hs hn hc9
  go_upto_region 6 with fail
  have hb:Below w15.heap.size w15 (w15.alloc (.cells #[.int .i64 lq,.slice Q qn qc] 28)):=(Below.refl _ _).alloc (Nat.le_refl _) _
  have BQ:=hide (Blk.new w15 28 #[.int .i64 lq,.slice Q qn qc])
  have LPQ:bP < w15.heap.size:=BP.out.lt
  have LBQ:w12.heap.size ≤ w15.heap.size:=HZ.out.size
  replace HZ:=hide (HZ.out.trans (hb.mono HZ.out.size))
  replace SP:=hide (SP.out.below hb)
  replace BP:=hide (BP.out.below hb BP.out.lt)
  replace SQ:=hide (SQ.out.below hb)
  obtain ⟨bQ,hq⟩:∃ q,w15.heap.size = q:=⟨_,rfl⟩
  obtain ⟨w16,hw⟩:∃ x,w15.alloc (.cells #[.int .i64 lq,.slice Q qn qc] 28) = x:=⟨_,rfl⟩
  rw [hw] at BQ HZ SP BP SQ ⊢
  rw [hq] at BQ LBQ LPQ ⊢
  clear hb hw hq
  have HS9:=hide (HS0.out _ HZ.out)
  go_wp2_with fail
  refine (HS9.out).mono ?_
  rintro e w17 ⟨Z,zn,zc,rfl,ho,hb⟩
  replace HZ:=hide (HZ.out.trans (hb.mono HZ.out.size))
  replace SP:=hide (SP.out.below hb)
  replace BP:=hide (BP.out.below hb BP.out.lt)
  replace SQ:=hide (SQ.out.below hb)
  replace BQ:=hide (BQ.out.below hb BQ.out.lt)
  have SZ:=hide ho.sl
  clear hb ho HS9
  go_wp2_with fail
  refine (HFJ.out.poly jj Z zn zc _ _ SZ.out HWJ.out).mono ?_
  rintro e w18 ⟨R,rn,rc,rfl,hs,hn,hb⟩
  replace HZ:=hide (HZ.out.trans (hb.mono HZ.out.size))
  replace SP:=hide (SP.out.below hb)
  replace BP:=hide (BP.out.below hb BP.out.lt)
  replace SQ:=hide (SQ.out.below hb)
  replace BQ:=hide (BQ.out.below hb BQ.out.lt)
  replace SZ:=hide (SZ.out.below hb)
  dsimp only at hs ⊢
  rw [HJ3.out.1,HJ3.out.2]
  rw [HJ3.out.2] at hs
  have SR:=hide hs
  clear hb hs hn
  clear SZ
  go_upto_region 7 with fail
  have hb:Below w18.heap.size w18 (w18.alloc (.cells #[.int .i64 lr,.slice R rn rc] 28)):=(Below.refl _ _).alloc (Nat.le_refl _) _
  have BR:=hide (Blk.new w18 28 #[.int .i64 lr,.slice R rn rc])
  have LPR:bP < w18.heap.size:=BP.out.lt
  have LQR:bQ < w18.heap.size:=BQ.out.lt
  have LBR:w12.heap.size ≤ w18.heap.size:=HZ.out.size
  replace HZ:=hide (HZ.out.trans (hb.mono HZ.out.size))
  replace SP:=hide (SP.out.below hb)
  replace BP:=hide (BP.out.below hb BP.out.lt)
  replace SQ:=hide (SQ.out.below hb)
  replace BQ:=hide (BQ.out.below hb BQ.out.lt)
  replace SR:=hide (SR.out.below hb)
  obtain ⟨bR,hq⟩:∃ q,w18.heap.size = q:=⟨_,rfl⟩
  obtain ⟨w19,hw⟩:∃ x,w18.alloc (.cells #[.int .i64 lr,.slice R rn rc] 28) = x:=⟨_,rfl⟩
  rw [hw] at BR HZ SP BP SQ BQ SR ⊢
  rw [hq] at BR LBR LPR LQR ⊢
  clear hb hw hq
  have hp0:=BP.out.cell 0
  have hp1:=BP.out.cell 1
  simp at hp0 hp1
  have hq0:=BQ.out.cell 0
  have hq1:=BQ.out.cell 1
  simp at hq0 hq1
  go_wp2_with fail
  refine (HFP.out.mul lp P pn pc cp lq Q qn qc cq _ SP.out SQ.out HWF.out.1 HWF.out.2.1).mono ?_
  rintro e w20 ⟨V,vn,vc,rfl,hs,hn,hb⟩
  replace HZ:=hide (HZ.out.trans (hb.mono HZ.out.size))
  replace SP:=hide (SP.out.below hb)
  replace BP:=hide (BP.out.below hb BP.out.lt)
  replace SQ:=hide (SQ.out.below hb)
  replace BQ:=hide (BQ.out.below hb BQ.out.lt)
  replace SR:=hide (SR.out.below hb)
  replace BR:=hide (BR.out.below hb BR.out.lt)
  rw [HM1.out] at hs ⊢
  dsimp only at hs ⊢
  have SV:=hide hs
  clear hb hs hn hp0 hp1 hq0 hq1
  go_upto_region 8 with fail
  have hb:Below w20.heap.size w20 (w20.alloc (.cells #[.int .i64 lr,.slice V vn vc] 28)):=(Below.refl _ _).alloc (Nat.le_refl _) _
  have BV:=hide (Blk.new w20 28 #[.int .i64 lr,.slice V vn vc])
  have LPV:bP < w20.heap.size:=BP.out.lt
  have LQV:bQ < w20.heap.size:=BQ.out.lt
  have LRV:bR < w20.heap.size:=BR.out.lt
  have LBV:w12.heap.size ≤ w20.heap.size:=HZ.out.size
  replace HZ:=hide (HZ.out.trans (hb.mono HZ.out.size))
  replace SP:=hide (SP.out.below hb)
  replace BP:=hide (BP.out.below hb BP.out.lt)
  replace SQ:=hide (SQ.out.below hb)
  replace BQ:=hide (BQ.out.below hb BQ.out.lt)
  replace SR:=hide (SR.out.below hb)
  replace BR:=hide (BR.out.below hb BR.out.lt)
  replace SV:=hide (SV.out.below hb)
  obtain ⟨bV,hq⟩:∃ q,w20.heap.size = q:=⟨_,rfl⟩
  obtain ⟨w21,hw⟩:∃ x,w20.alloc (.cells #[.int .i64 lr,.slice V vn vc] 28) = x:=⟨_,rfl⟩
  rw [hw] at BV HZ SP BP SQ BQ SR BR SV ⊢
  rw [hq] at BV LBV LPV LQV LRV ⊢
  clear hb hw hq
  obtain ⟨K,hK⟩:∃ q,w21.heap.size = q:=⟨_,rfl⟩
  have LKP:bP < K:=by rw [← hK];exact BP.out.lt
  have LKQ:bQ < K:=by rw [← hK];exact BQ.out.lt
  have LKR:bR < K:=by rw [← hK];exact BR.out.lt
  have LKV:bV < K:=by rw [← hK];exact BV.out.lt
  have HKS:Hid (K ≤ w21.heap.size):=hide (by omega)
  clear hK
  go_wp2_with fail
  refine (HT.out _ ((HTB.out.below HW0.out).below HZ.out)).mono ?_
  rintro e w22 ⟨rfl,hb⟩
  replace HZ:=hide (HZ.out.trans (hb.mono HZ.out.size))
  replace SP:=hide (SP.out.below hb)
  replace BP:=hide (BP.out.below hb BP.out.lt)
  replace SQ:=hide (SQ.out.below hb)
  replace BQ:=hide (BQ.out.below hb BQ.out.lt)
  replace SR:=hide (SR.out.below hb)
  replace BR:=hide (BR.out.below hb BR.out.lt)
  replace SV:=hide (SV.out.below hb)
  replace BV:=hide (BV.out.below hb BV.out.lt)
  replace HKS:=hide (Nat.le_trans HKS.out hb.size)
  clear hb
  have hp0:=BR.out.cell 0
  have hp1:=BR.out.cell 1
  simp at hp0 hp1
  have hq0:=BV.out.cell 0
  have hq1:=BV.out.cell 1
  simp at hq0 hq1
  go_wp2_with fail
  refine (same_t lr R rn rc cr V vn vc _ SR.out SV.out).mono ?_
  rintro e w23 ⟨rfl,hb⟩
  replace HZ:=hide (HZ.out.trans (hb.mono HZ.out.size))
  replace SP:=hide (SP.out.below hb)
  replace BP:=hide (BP.out.below hb BP.out.lt)
  replace SQ:=hide (SQ.out.below hb)
  replace BQ:=hide (BQ.out.below hb BQ.out.lt)
  replace SR:=hide (SR.out.below hb)
  replace BR:=hide (BR.out.below hb BR.out.lt)
  replace SV:=hide (SV.out.below hb)
  replace BV:=hide (BV.out.below hb BV.out.lt)
  replace HKS:=hide (Nat.le_trans HKS.out hb.size)
  clear hb hp0 hp1 hq0 hq1
  clear SP SQ SR SV
  have HM1B:=HM1
  clear HM1
  have hc9:=(HKX.out _ HZ.out).1.cell 0
  simp at hc9
  have HKO:=HKS
  go_wp2_with fail
  refine (HF.out.poly nn X xn xc xs _ (HKX.out _ HZ.out).2 HWN.out HFX.out).mono ?_
  rintro e w24 ⟨P2,p2n,p2c,rfl,hs,hn,hb⟩
  replace HZ:=hide (HZ.out.trans (hb.mono HZ.out.size))
  replace BP:=hide (BP.out.below hb BP.out.lt)
  replace BQ:=hide (BQ.out.below hb BQ.out.lt)
  replace BR:=hide (BR.out.below hb BR.out.lt)
  replace BV:=hide (BV.out.below hb BV.out.lt)
  replace HKS:=hide (Nat.le_trans HKS.out hb.size)
  dsimp only at hs ⊢
  rw [HA1.out.1]
  rw [HA1.out.2] at hs
  have SP2:=hide hs
  have NP2:Hid (NewK K P2 p2n):=hide (fun h0 ad e => Nat.le_trans HKO.out (hn h0 ad e))
  clear hb hs hn hc9 HKO
  have hf0:=BP.out.frozen 0
  have hf1:=BP.out.frozen 1
  have hfl:=BP.out.lt
  have hp0:=BP.out.cell 0
  have hp1:=BP.out.cell 1
  simp at hp0 hp1
  go_upto_region 11 with fail
  obtain ⟨w25,hw⟩:∃ x,putP w24 bP 0 P2 p2n p2c = x:=⟨_,rfl⟩
  have hw2:(w24.setCell ⟨bP,0,none⟩ (.int .i64 0)).setCell ⟨bP,1,none⟩ (.slice P2 p2n p2c) = w25:=hw
  rw [hw2]
  clear hw2
  replace HZ:=hide (below_put HZ.out LBP 0 P2 p2n p2c)
  replace HKS:Hid (K ≤ (putP w24 bP 0 P2 p2n p2c).heap.size):=hide (by rw [size_put];exact HKS.out)
  replace BP:=hide (BP.out.put 0 P2 p2n p2c)
  replace BQ:=hide (BQ.out.putFar (show bQ ≠ bP by omega) 0 P2 p2n p2c)
  replace BR:=hide (BR.out.putFar (show bR ≠ bP by omega) 0 P2 p2n p2c)
  replace BV:=hide (BV.out.putFar (show bV ≠ bP by omega) 0 P2 p2n p2c)
  replace SP2:=hide (SP2.out.put NP2.out LKP 0 P2 p2n p2c)
  rw [hw] at HZ HKS BP BQ BR BV SP2
  clear hw hf0 hf1 hfl hp0 hp1
  have hc9:=(HKY.out _ HZ.out).1.cell 0
  simp at hc9
  have HKO:=HKS
  go_wp2_with fail
  refine (HF.out.poly mm Y yn yc ys _ (HKY.out _ HZ.out).2 HWM.out HFY.out).mono ?_
  rintro e w26 ⟨Q2,q2n,q2c,rfl,hs,hn,hb⟩
  replace HZ:=hide (HZ.out.trans (hb.mono HZ.out.size))
  replace BP:=hide (BP.out.below hb BP.out.lt)
  replace BQ:=hide (BQ.out.below hb BQ.out.lt)
  replace BR:=hide (BR.out.below hb BR.out.lt)
  replace BV:=hide (BV.out.below hb BV.out.lt)
  replace SP2:=hide (SP2.out.below hb)
  replace HKS:=hide (Nat.le_trans HKS.out hb.size)
  dsimp only at hs ⊢
  rw [HA2.out.1]
  rw [HA2.out.2] at hs
  have SQ2:=hide hs
  have NQ2:Hid (NewK K Q2 q2n):=hide (fun h0 ad e => Nat.le_trans HKO.out (hn h0 ad e))
  clear hb hs hn hc9 HKO
  have hf0:=BQ.out.frozen 0
  have hf1:=BQ.out.frozen 1
  have hfl:=BQ.out.lt
  have hp0:=BQ.out.cell 0
  have hp1:=BQ.out.cell 1
  simp at hp0 hp1
  go_upto_region 12 with fail
  obtain ⟨w27,hw⟩:∃ x,putP w26 bQ 0 Q2 q2n q2c = x:=⟨_,rfl⟩
  have hw2:(w26.setCell ⟨bQ,0,none⟩ (.int .i64 0)).setCell ⟨bQ,1,none⟩ (.slice Q2 q2n q2c) = w27:=hw
  rw [hw2]
  clear hw2
  replace HZ:=hide (below_put HZ.out LBQ 0 Q2 q2n q2c)
  replace HKS:Hid (K ≤ (putP w26 bQ 0 Q2 q2n q2c).heap.size):=hide (by rw [size_put];exact HKS.out)
  replace BP:=hide (BP.out.putFar (show bP ≠ bQ by omega) 0 Q2 q2n q2c)
  replace BQ:=hide (BQ.out.put 0 Q2 q2n q2c)
  replace BR:=hide (BR.out.putFar (show bR ≠ bQ by omega) 0 Q2 q2n q2c)
  replace BV:=hide (BV.out.putFar (show bV ≠ bQ by omega) 0 Q2 q2n q2c)
  replace SP2:=hide (SP2.out.put NP2.out LKQ 0 Q2 q2n q2c)
  replace SQ2:=hide (SQ2.out.put NQ2.out LKQ 0 Q2 q2n q2c)
  rw [hw] at HZ HKS BP BQ BR BV SP2 SQ2
  clear hw hf0 hf1 hfl hp0 hp1
  have HS9:=hide (HS0.out _ HZ.out)
  go_wp2_with fail
  refine (HS9.out).mono ?_
  rintro e w28 ⟨Z,zn,zc,rfl,ho,hb⟩
  replace HZ:=hide (HZ.out.trans (hb.mono HZ.out.size))
  replace BP:=hide (BP.out.below hb BP.out.lt)
  replace BQ:=hide (BQ.out.below hb BQ.out.lt)
  replace BR:=hide (BR.out.below hb BR.out.lt)
  replace BV:=hide (BV.out.below hb BV.out.lt)
  replace SP2:=hide (SP2.out.below hb)
  replace SQ2:=hide (SQ2.out.below hb)
  replace HKS:=hide (Nat.le_trans HKS.out hb.size)
  have SZ:=hide ho.sl
  clear hb ho HS9
  have HKO:=HKS
  go_wp2_with fail
  refine (HF.out.poly jj Z zn zc _ _ SZ.out HWJ.out (HFZ.out _)).mono ?_
  rintro e w29 ⟨R2,r2n,r2c,rfl,hs,hn,hb⟩
  replace HZ:=hide (HZ.out.trans (hb.mono HZ.out.size))
  replace BP:=hide (BP.out.below hb BP.out.lt)
  replace BQ:=hide (BQ.out.below hb BQ.out.lt)
  replace BR:=hide (BR.out.below hb BR.out.lt)
  replace BV:=hide (BV.out.below hb BV.out.lt)
  replace SP2:=hide (SP2.out.below hb)
  replace SQ2:=hide (SQ2.out.below hb)
  replace SZ:=hide (SZ.out.below hb)
  replace HKS:=hide (Nat.le_trans HKS.out hb.size)
  dsimp only at hs ⊢
  rw [HA3.out.1]
  rw [HA3.out.2] at hs
  have SR2:=hide hs
  have NR2:Hid (NewK K R2 r2n):=hide (fun h0 ad e => Nat.le_trans HKO.out (hn h0 ad e))
  clear hb hs hn HKO
  clear SZ
  have hf0:=BR.out.frozen 0
  have hf1:=BR.out.frozen 1
  have hfl:=BR.out.lt
  have hp0:=BR.out.cell 0
  have hp1:=BR.out.cell 1
  simp at hp0 hp1
  go_upto_region 13 with fail
  obtain ⟨w30,hw⟩:∃ x,putP w29 bR 0 R2 r2n r2c = x:=⟨_,rfl⟩
  have hw2:(w29.setCell ⟨bR,0,none⟩ (.int .i64 0)).setCell ⟨bR,1,none⟩ (.slice R2 r2n r2c) = w30:=hw
  rw [hw2]
  clear hw2
  replace HZ:=hide (below_put HZ.out LBR 0 R2 r2n r2c)
  replace HKS:Hid (K ≤ (putP w29 bR 0 R2 r2n r2c).heap.size):=hide (by rw [size_put];exact HKS.out)
  replace BP:=hide (BP.out.putFar (show bP ≠ bR by omega) 0 R2 r2n r2c)
  replace BQ:=hide (BQ.out.putFar (show bQ ≠ bR by omega) 0 R2 r2n r2c)
  replace BR:=hide (BR.out.put 0 R2 r2n r2c)
  replace BV:=hide (BV.out.putFar (show bV ≠ bR by omega) 0 R2 r2n r2c)
  replace SP2:=hide (SP2.out.put NP2.out LKR 0 R2 r2n r2c)
  replace SQ2:=hide (SQ2.out.put NQ2.out LKR 0 R2 r2n r2c)
  replace SR2:=hide (SR2.out.put NR2.out LKR 0 R2 r2n r2c)
  rw [hw] at HZ HKS BP BQ BR BV SP2 SQ2 SR2
  clear hw hf0 hf1 hfl hp0 hp1
  have hp0:=BP.out.cell 0
  have hp1:=BP.out.cell 1
  simp at hp0 hp1
  have hq0:=BQ.out.cell 0
  have hq1:=BQ.out.cell 1
  simp at hq0 hq1
  have HKO:=HKS
  go_wp2_with fail
  refine (HFP.out.mul 0 P2 p2n p2c ap 0 Q2 q2n q2c aq _ SP2.out SQ2.out (by decide) (by decide)).mono ?_
  rintro e w31 ⟨V2,v2n,v2c,rfl,hs,hn,hb⟩
  replace HZ:=hide (HZ.out.trans (hb.mono HZ.out.size))
  replace BP:=hide (BP.out.below hb BP.out.lt)
  replace BQ:=hide (BQ.out.below hb BQ.out.lt)
  replace BR:=hide (BR.out.below hb BR.out.lt)
  replace BV:=hide (BV.out.below hb BV.out.lt)
  replace SP2:=hide (SP2.out.below hb)
  replace SQ2:=hide (SQ2.out.below hb)
  replace SR2:=hide (SR2.out.below hb)
  replace HKS:=hide (Nat.le_trans HKS.out hb.size)
  rw [HM3.out] at hs ⊢
  dsimp only at hs ⊢
  have SV2:=hide hs
  have NV2:Hid (NewK K V2 v2n):=hide (fun h0 ad e => Nat.le_trans HKO.out (hn h0 ad e))
  clear hb hs hn hp0 hp1 hq0 hq1 HKO
  have hf0:=BV.out.frozen 0
  have hf1:=BV.out.frozen 1
  have hfl:=BV.out.lt
  have hp0:=BV.out.cell 0
  have hp1:=BV.out.cell 1
  simp at hp0 hp1
  go_upto_region 14 with fail
  obtain ⟨w32,hw⟩:∃ x,putP w31 bV 0 V2 v2n v2c = x:=⟨_,rfl⟩
  have hw2:(w31.setCell ⟨bV,0,none⟩ (.int .i64 0)).setCell ⟨bV,1,none⟩ (.slice V2 v2n v2c) = w32:=hw
  rw [hw2]
  clear hw2
  replace HZ:=hide (below_put HZ.out LBV 0 V2 v2n v2c)
  replace HKS:Hid (K ≤ (putP w31 bV 0 V2 v2n v2c).heap.size):=hide (by rw [size_put];exact HKS.out)
  replace BP:=hide (BP.out.putFar (show bP ≠ bV by omega) 0 V2 v2n v2c)
  replace BQ:=hide (BQ.out.putFar (show bQ ≠ bV by omega) 0 V2 v2n v2c)
  replace BR:=hide (BR.out.putFar (show bR ≠ bV by omega) 0 V2 v2n v2c)
  replace BV:=hide (BV.out.put 0 V2 v2n v2c)
  replace SP2:=hide (SP2.out.put NP2.out LKV 0 V2 v2n v2c)
  replace SQ2:=hide (SQ2.out.put NQ2.out LKV 0 V2 v2n v2c)
  replace SR2:=hide (SR2.out.put NR2.out LKV 0 V2 v2n v2c)
  replace SV2:=hide (SV2.out.put NV2.out LKV 0 V2 v2n v2c)
  rw [hw] at HZ HKS BP BQ BR BV SP2 SQ2 SR2 SV2
  clear hw hf0 hf1 hfl hp0 hp1
  have hp0:=BR.out.cell 0
  have hp1:=BR.out.cell 1
  simp at hp0 hp1
  have hq0:=BV.out.cell 0
  have hq1:=BV.out.cell 1
  simp at hq0 hq1
  go_wp2_with fail
  refine (same_t 0 R2 r2n r2c ar V2 v2n v2c _ SR2.out SV2.out).mono ?_
  rintro e w33 ⟨rfl,hb⟩
  replace HZ:=hide (HZ.out.trans (hb.mono HZ.out.size))
  replace BP:=hide (BP.out.below hb BP.out.lt)
  replace BQ:=hide (BQ.out.below hb BQ.out.lt)
  replace BR:=hide (BR.out.below hb BR.out.lt)
  replace BV:=hide (BV.out.below hb BV.out.lt)
  replace SP2:=hide (SP2.out.below hb)
  replace SQ2:=hide (SQ2.out.below hb)
  replace SR2:=hide (SR2.out.below hb)
  replace SV2:=hide (SV2.out.below hb)
  replace HKS:=hide (Nat.le_trans HKS.out hb.size)
  clear hb hp0 hp1 hq0 hq1
  clear SP2 SQ2 SR2 SV2
  clear HM3 NP2 NQ2 NR2 NV2
  have HS9:=hide (HS1.out _ HZ.out)
  go_wp2_with fail
  refine (HS9.out).mono ?_
  rintro e w34 ⟨Z,zn,zc,rfl,ho,hb⟩
  replace HZ:=hide (HZ.out.trans (hb.mono HZ.out.size))
  replace BP:=hide (BP.out.below hb BP.out.lt)
  replace BQ:=hide (BQ.out.below hb BQ.out.lt)
  replace BR:=hide (BR.out.below hb BR.out.lt)
  replace BV:=hide (BV.out.below hb BV.out.lt)
  replace HKS:=hide (Nat.le_trans HKS.out hb.size)
  have SZ:=hide ho.sl
  clear hb ho HS9
  have HKO:=HKS
  go_wp2_with fail
  refine (HF.out.poly kk Z zn zc _ _ SZ.out HWK.out (HFK.out _)).mono ?_
  rintro e w35 ⟨R3,r3n,r3c,rfl,hs,hn,hb⟩
  replace HZ:=hide (HZ.out.trans (hb.mono HZ.out.size))
  replace BP:=hide (BP.out.below hb BP.out.lt)
  replace BQ:=hide (BQ.out.below hb BQ.out.lt)
  replace BR:=hide (BR.out.below hb BR.out.lt)
  replace BV:=hide (BV.out.below hb BV.out.lt)
  replace SZ:=hide (SZ.out.below hb)
  replace HKS:=hide (Nat.le_trans HKS.out hb.size)
  dsimp only at hs ⊢
  rw [HA4.out.1]
  rw [HA4.out.2] at hs
  have SR3:=hide hs
  have NR3:Hid (NewK K R3 r3n):=hide (fun h0 ad e => Nat.le_trans HKO.out (hn h0 ad e))
  clear hb hs hn HKO
  clear SZ
  have HR0:=hide (show 0 = r3n from SR3.out.il.len)
  have hf0:=BR.out.frozen 0
  have hf1:=BR.out.frozen 1
  have hfl:=BR.out.lt
  have hp0:=BR.out.cell 0
  have hp1:=BR.out.cell 1
  simp at hp0 hp1
  go_upto_region 17 with fail
  obtain ⟨w36,hw⟩:∃ x,putP w35 bR 0 R3 r3n r3c = x:=⟨_,rfl⟩
  have hw2:(w35.setCell ⟨bR,0,none⟩ (.int .i64 0)).setCell ⟨bR,1,none⟩ (.slice R3 r3n r3c) = w36:=hw
  rw [hw2]
  clear hw2
  replace HZ:=hide (below_put HZ.out LBR 0 R3 r3n r3c)
  replace HKS:Hid (K ≤ (putP w35 bR 0 R3 r3n r3c).heap.size):=hide (by rw [size_put];exact HKS.out)
  replace BP:=hide (BP.out.putFar (show bP ≠ bR by omega) 0 R3 r3n r3c)
  replace BQ:=hide (BQ.out.putFar (show bQ ≠ bR by omega) 0 R3 r3n r3c)
  replace BR:=hide (BR.out.put 0 R3 r3n r3c)
  replace BV:=hide (BV.out.putFar (show bV ≠ bR by omega) 0 R3 r3n r3c)
  rw [hw] at HZ HKS BP BQ BR BV
  clear hw hf0 hf1 hfl hp0 hp1
  clear SR3
  clear NR3
  have HS9:=hide (HS1.out _ HZ.out)
  go_wp2_with fail
  refine (HS9.out).mono ?_
  rintro e w37 ⟨Z,zn,zc,rfl,ho,hb⟩
  replace HZ:=hide (HZ.out.trans (hb.mono HZ.out.size))
  replace BP:=hide (BP.out.below hb BP.out.lt)
  replace BQ:=hide (BQ.out.below hb BQ.out.lt)
  replace BR:=hide (BR.out.below hb BR.out.lt)
  replace BV:=hide (BV.out.below hb BV.out.lt)
  replace HKS:=hide (Nat.le_trans HKS.out hb.size)
  have SZ:=hide ho.sl
  clear hb ho HS9
  have HKO:=HKS
  go_wp2_with fail
  refine (HFJ.out.poly kk Z zn zc _ _ SZ.out HWK.out).mono ?_
  rintro e w38 ⟨G,gn,gc,rfl,hs,hn,hb⟩
  replace HZ:=hide (HZ.out.trans (hb.mono HZ.out.size))
  replace BP:=hide (BP.out.below hb BP.out.lt)
  replace BQ:=hide (BQ.out.below hb BQ.out.lt)
  replace BR:=hide (BR.out.below hb BR.out.lt)
  replace BV:=hide (BV.out.below hb BV.out.lt)
  replace SZ:=hide (SZ.out.below hb)
  replace HKS:=hide (Nat.le_trans HKS.out hb.size)
  dsimp only at hs ⊢
  rw [HJ4.out.1,HJ4.out.2]
  rw [HJ4.out.2] at hs
  have SG:=hide hs
  have NG:Hid (NewK K G gn):=hide (fun h0 ad e => Nat.le_trans HKO.out (hn h0 ad e))
  clear hb hs hn HKO
  clear SZ
  go_upto_region 18 with fail
  have hb:Below w38.heap.size w38 (w38.alloc (.cells #[.int .i64 ls,.slice G gn gc] 28)):=(Below.refl _ _).alloc (Nat.le_refl _) _
  have BG:=hide (Blk.new w38 28 #[.int .i64 ls,.slice G gn gc])
  have LPG:bP < w38.heap.size:=BP.out.lt
  have LQG:bQ < w38.heap.size:=BQ.out.lt
  have LRG:bR < w38.heap.size:=BR.out.lt
  have LVG:bV < w38.heap.size:=BV.out.lt
  have LBG:w12.heap.size ≤ w38.heap.size:=HZ.out.size
  replace HZ:=hide (HZ.out.trans (hb.mono HZ.out.size))
  replace BP:=hide (BP.out.below hb BP.out.lt)
  replace BQ:=hide (BQ.out.below hb BQ.out.lt)
  replace BR:=hide (BR.out.below hb BR.out.lt)
  replace BV:=hide (BV.out.below hb BV.out.lt)
  replace SG:=hide (SG.out.below hb)
  replace HKS:=hide (Nat.le_trans HKS.out hb.size)
  obtain ⟨bG,hq⟩:∃ q,w38.heap.size = q:=⟨_,rfl⟩
  obtain ⟨w39,hw⟩:∃ x,w38.alloc (.cells #[.int .i64 ls,.slice G gn gc] 28) = x:=⟨_,rfl⟩
  rw [hw] at BG HZ BP BQ BR BV SG HKS ⊢
  rw [hq] at BG LBG LPG LQG LRG LVG ⊢
  clear hb hw hq
  have hc9:=(HKX.out _ HZ.out).1.cell 0
  simp at hc9
  have HKO:=HKS
  go_wp2_with fail
  refine (HFJ.out.poly nn X xn xc xs _ (HKX.out _ HZ.out).2 HWN.out).mono ?_
  rintro e w40 ⟨P4,p4n,p4c,rfl,hs,hn,hb⟩
  replace HZ:=hide (HZ.out.trans (hb.mono HZ.out.size))
  replace BP:=hide (BP.out.below hb BP.out.lt)
  replace BQ:=hide (BQ.out.below hb BQ.out.lt)
  replace BR:=hide (BR.out.below hb BR.out.lt)
  replace BV:=hide (BV.out.below hb BV.out.lt)
  replace SG:=hide (SG.out.below hb)
  replace BG:=hide (BG.out.below hb BG.out.lt)
  replace HKS:=hide (Nat.le_trans HKS.out hb.size)
  dsimp only at hs ⊢
  rw [HJ1.out.1,HJ1.out.2]
  rw [HJ1.out.2] at hs
  have SP4:=hide hs
  have NP4:Hid (NewK K P4 p4n):=hide (fun h0 ad e => Nat.le_trans HKO.out (hn h0 ad e))
  clear hb hs hn hc9 HKO
  have hf0:=BP.out.frozen 0
  have hf1:=BP.out.frozen 1
  have hfl:=BP.out.lt
  have hp0:=BP.out.cell 0
  have hp1:=BP.out.cell 1
  simp at hp0 hp1
  go_upto_region 19 with fail
  obtain ⟨w41,hw⟩:∃ x,putP w40 bP lp P4 p4n p4c = x:=⟨_,rfl⟩
  have hw2:(w40.setCell ⟨bP,0,none⟩ (.int .i64 lp)).setCell ⟨bP,1,none⟩ (.slice P4 p4n p4c) = w41:=hw
  rw [hw2]
  clear hw2
  replace HZ:=hide (below_put HZ.out LBP lp P4 p4n p4c)
  replace HKS:Hid (K ≤ (putP w40 bP lp P4 p4n p4c).heap.size):=hide (by rw [size_put];exact HKS.out)
  replace BP:=hide (BP.out.put lp P4 p4n p4c)
  replace BQ:=hide (BQ.out.putFar (show bQ ≠ bP by omega) lp P4 p4n p4c)
  replace BR:=hide (BR.out.putFar (show bR ≠ bP by omega) lp P4 p4n p4c)
  replace BV:=hide (BV.out.putFar (show bV ≠ bP by omega) lp P4 p4n p4c)
  replace BG:=hide (BG.out.putFar (show bG ≠ bP by omega) lp P4 p4n p4c)
  replace SG:=hide (SG.out.put NG.out LKP lp P4 p4n p4c)
  replace SP4:=hide (SP4.out.put NP4.out LKP lp P4 p4n p4c)
  rw [hw] at HZ HKS BP BQ BR BV BG SG SP4
  clear hw hf0 hf1 hfl hp0 hp1
  have hc9:=(HKY.out _ HZ.out).1.cell 0
  simp at hc9
  have HKO:=HKS
  go_wp2_with fail
  refine (HFJ.out.poly mm Y yn yc ys _ (HKY.out _ HZ.out).2 HWM.out).mono ?_
  rintro e w42 ⟨Q4,q4n,q4c,rfl,hs,hn,hb⟩
  replace HZ:=hide (HZ.out.trans (hb.mono HZ.out.size))
  replace BP:=hide (BP.out.below hb BP.out.lt)
  replace BQ:=hide (BQ.out.below hb BQ.out.lt)
  replace BR:=hide (BR.out.below hb BR.out.lt)
  replace BV:=hide (BV.out.below hb BV.out.lt)
  replace SG:=hide (SG.out.below hb)
  replace BG:=hide (BG.out.below hb BG.out.lt)
  replace SP4:=hide (SP4.out.below hb)
  replace HKS:=hide (Nat.le_trans HKS.out hb.size)
  dsimp only at hs ⊢
  rw [HJ2.out.1,HJ2.out.2]
  rw [HJ2.out.2] at hs
  have SQ4:=hide hs
  have NQ4:Hid (NewK K Q4 q4n):=hide (fun h0 ad e => Nat.le_trans HKO.out (hn h0 ad e))
  clear hb hs hn hc9 HKO
  have hf0:=BQ.out.frozen 0
  have hf1:=BQ.out.frozen 1
  have hfl:=BQ.out.lt
  have hp0:=BQ.out.cell 0
  have hp1:=BQ.out.cell 1
  simp at hp0 hp1
  go_upto_region 20 with fail
  obtain ⟨w43,hw⟩:∃ x,putP w42 bQ lq Q4 q4n q4c = x:=⟨_,rfl⟩
  have hw2:(w42.setCell ⟨bQ,0,none⟩ (.int .i64 lq)).setCell ⟨bQ,1,none⟩ (.slice Q4 q4n q4c) = w43:=hw
  rw [hw2]
  clear hw2
  replace HZ:=hide (below_put HZ.out LBQ lq Q4 q4n q4c)
  replace HKS:Hid (K ≤ (putP w42 bQ lq Q4 q4n q4c).heap.size):=hide (by rw [size_put];exact HKS.out)
  replace BP:=hide (BP.out.putFar (show bP ≠ bQ by omega) lq Q4 q4n q4c)
  replace BQ:=hide (BQ.out.put lq Q4 q4n q4c)
  replace BR:=hide (BR.out.putFar (show bR ≠ bQ by omega) lq Q4 q4n q4c)
  replace BV:=hide (BV.out.putFar (show bV ≠ bQ by omega) lq Q4 q4n q4c)
  replace BG:=hide (BG.out.putFar (show bG ≠ bQ by omega) lq Q4 q4n q4c)
  replace SG:=hide (SG.out.put NG.out LKQ lq Q4 q4n q4c)
  replace SP4:=hide (SP4.out.put NP4.out LKQ lq Q4 q4n q4c)
  replace SQ4:=hide (SQ4.out.put NQ4.out LKQ lq Q4 q4n q4c)
  rw [hw] at HZ HKS BP BQ BR BV BG SG SP4 SQ4
  clear hw hf0 hf1 hfl hp0 hp1
  have HM1:=HM1B
  have hp0:=BP.out.cell 0
  have hp1:=BP.out.cell 1
  simp at hp0 hp1
  have hq0:=BQ.out.cell 0
  have hq1:=BQ.out.cell 1
  simp at hq0 hq1
  have HKO:=HKS
  go_wp2_with fail
  refine (HFP.out.mul lp P4 p4n p4c cp lq Q4 q4n q4c cq _ SP4.out SQ4.out HWF.out.1 HWF.out.2.1).mono ?_
  rintro e w44 ⟨V4,v4n,v4c,rfl,hs,hn,hb⟩
  replace HZ:=hide (HZ.out.trans (hb.mono HZ.out.size))
  replace BP:=hide (BP.out.below hb BP.out.lt)
  replace BQ:=hide (BQ.out.below hb BQ.out.lt)
  replace BR:=hide (BR.out.below hb BR.out.lt)
  replace BV:=hide (BV.out.below hb BV.out.lt)
  replace SG:=hide (SG.out.below hb)
  replace BG:=hide (BG.out.below hb BG.out.lt)
  replace SP4:=hide (SP4.out.below hb)
  replace SQ4:=hide (SQ4.out.below hb)
  replace HKS:=hide (Nat.le_trans HKS.out hb.size)
  rw [HM1.out] at hs ⊢
  dsimp only at hs ⊢
  have SV4:=hide hs
  have NV4:Hid (NewK K V4 v4n):=hide (fun h0 ad e => Nat.le_trans HKO.out (hn h0 ad e))
  clear hb hs hn hp0 hp1 hq0 hq1 HKO
  have hf0:=BV.out.frozen 0
  have hf1:=BV.out.frozen 1
  have hfl:=BV.out.lt
  have hp0:=BV.out.cell 0
  have hp1:=BV.out.cell 1
  simp at hp0 hp1
  go_upto_region 21 with fail
  obtain ⟨w45,hw⟩:∃ x,putP w44 bV lr V4 v4n v4c = x:=⟨_,rfl⟩
  have hw2:(w44.setCell ⟨bV,0,none⟩ (.int .i64 lr)).setCell ⟨bV,1,none⟩ (.slice V4 v4n v4c) = w45:=hw
  rw [hw2]
  clear hw2
  replace HZ:=hide (below_put HZ.out LBV lr V4 v4n v4c)
  replace HKS:Hid (K ≤ (putP w44 bV lr V4 v4n v4c).heap.size):=hide (by rw [size_put];exact HKS.out)
  replace BP:=hide (BP.out.putFar (show bP ≠ bV by omega) lr V4 v4n v4c)
  replace BQ:=hide (BQ.out.putFar (show bQ ≠ bV by omega) lr V4 v4n v4c)
  replace BR:=hide (BR.out.putFar (show bR ≠ bV by omega) lr V4 v4n v4c)
  replace BV:=hide (BV.out.put lr V4 v4n v4c)
  replace BG:=hide (BG.out.putFar (show bG ≠ bV by omega) lr V4 v4n v4c)
  replace SG:=hide (SG.out.put NG.out LKV lr V4 v4n v4c)
  replace SV4:=hide (SV4.out.put NV4.out LKV lr V4 v4n v4c)
  rw [hw] at HZ HKS BP BQ BR BV BG SG SV4
  clear hw hf0 hf1 hfl hp0 hp1
  clear SP4 SQ4
  clear NP4 NQ4
  have hp0:=BV.out.cell 0
  have hp1:=BV.out.cell 1
  simp at hp0 hp1
  go_wp2_with fail
  obtain ⟨q,hsz⟩:∃ q,w45.heap.size = q:=⟨_,rfl⟩
  have HZq:=hide hsz
  rw [hsz] at  ⊢
  have hb:Below w45.heap.size w45 (w45.alloc (.cells #[.int .i64 (-1),.int .i64 0,.int .i64 0,.int .i64 0,.int .i64 (-1)] 3)):=(Below.refl _ _).alloc (Nat.le_refl _) _
  have SL5:Hid (SL (w45.alloc (.cells #[.int .i64 (-1),.int .i64 0,.int .i64 0,.int .i64 0,.int .i64 (-1)] 3)) (some ⟨w45.heap.size,0,none⟩) 5 5 [-1,0,0,0,-1]):=hide (SL.lit w45 [-1,0,0,0,-1] (by decide) rfl rfl)
  replace HZ:=hide (HZ.out.trans (hb.mono HZ.out.size))
  replace BP:=hide (BP.out.below hb BP.out.lt)
  replace BQ:=hide (BQ.out.below hb BQ.out.lt)
  replace BR:=hide (BR.out.below hb BR.out.lt)
  replace BV:=hide (BV.out.below hb BV.out.lt)
  replace SG:=hide (SG.out.below hb)
  replace BG:=hide (BG.out.below hb BG.out.lt)
  replace SV4:=hide (SV4.out.below hb)
  replace HKS:=hide (Nat.le_trans HKS.out hb.size)
  rw [hsz] at SL5
  obtain ⟨w46,hw⟩:∃ x,w45.alloc (.cells #[.int .i64 (-1),.int .i64 0,.int .i64 0,.int .i64 0,.int .i64 (-1)] 3) = x:=⟨_,rfl⟩
  replace hsz:w46.heap.size = q + 1:=by rw [← hw,World.size_alloc,hsz]
  rw [hw] at SL5 HZ BP BQ BR BV SG BG SV4 HKS ⊢
  clear hb hw
  clear hsz
  have HKO:=HKS
  refine (HFP.out.mul lr V4 v4n v4c cr (-2) (some ⟨q,0,none⟩) 5 5 [-1,0,0,0,-1] _ SV4.out SL5.out HWF.out.2.2 (by decide)).mono ?_
  rintro e w47 ⟨V5,v5n,v5c,rfl,hs,hn,hb⟩
  replace HZ:=hide (HZ.out.trans (hb.mono HZ.out.size))
  replace BP:=hide (BP.out.below hb BP.out.lt)
  replace BQ:=hide (BQ.out.below hb BQ.out.lt)
  replace BR:=hide (BR.out.below hb BR.out.lt)
  replace BV:=hide (BV.out.below hb BV.out.lt)
  replace SG:=hide (SG.out.below hb)
  replace BG:=hide (BG.out.below hb BG.out.lt)
  replace SV4:=hide (SV4.out.below hb)
  replace SL5:=hide (SL5.out.below hb)
  replace HKS:=hide (Nat.le_trans HKS.out hb.size)
  rw [HM2.out] at hs ⊢
  dsimp only at hs ⊢
  have SV5:=hide hs
  have NV5:Hid (NewK K V5 v5n):=hide (fun h0 ad e => Nat.le_trans HKO.out (hn h0 ad e))
  clear hb hs hn hp0 hp1 HKO
  clear SL5 SV4
  have hf0:=BV.out.frozen 0
  have hf1:=BV.out.frozen 1
  have hfl:=BV.out.lt
  have hp0:=BV.out.cell 0
  have hp1:=BV.out.cell 1
  simp at hp0 hp1
  go_upto_region 22 with fail
  obtain ⟨w48,hw⟩:∃ x,putP w47 bV ls V5 v5n v5c = x:=⟨_,rfl⟩
  have hw2:(w47.setCell ⟨bV,0,none⟩ (.int .i64 ls)).setCell ⟨bV,1,none⟩ (.slice V5 v5n v5c) = w48:=hw
  rw [hw2]
  clear hw2
  replace HZ:=hide (below_put HZ.out LBV ls V5 v5n v5c)
  replace HKS:Hid (K ≤ (putP w47 bV ls V5 v5n v5c).heap.size):=hide (by rw [size_put];exact HKS.out)
  replace BP:=hide (BP.out.putFar (show bP ≠ bV by omega) ls V5 v5n v5c)
  replace BQ:=hide (BQ.out.putFar (show bQ ≠ bV by omega) ls V5 v5n v5c)
  replace BR:=hide (BR.out.putFar (show bR ≠ bV by omega) ls V5 v5n v5c)
  replace BV:=hide (BV.out.put ls V5 v5n v5c)
  replace BG:=hide (BG.out.putFar (show bG ≠ bV by omega) ls V5 v5n v5c)
  replace SG:=hide (SG.out.put NG.out LKV ls V5 v5n v5c)
  replace SV5:=hide (SV5.out.put NV5.out LKV ls V5 v5n v5c)
  rw [hw] at HZ HKS BP BQ BR BV BG SG SV5
  clear hw hf0 hf1 hfl hp0 hp1
  have hr0:=HR0.out
  clear HR0
  subst hr0
  have hr0:=BR.out.cell 0
  have hr1:=BR.out.cell 1
  simp at hr0 hr1
  have hp0:=BG.out.cell 0
  have hp1:=BG.out.cell 1
  simp at hp0 hp1
  have hq0:=BV.out.cell 0
  have hq1:=BV.out.cell 1
  simp at hq0 hq1
  go_wp2_with fail
  refine (same_t ls G gn gc cs V5 v5n v5c _ SG.out SV5.out).mono ?_
  rintro e w49 ⟨rfl,hb⟩
  replace HZ:=hide (HZ.out.trans (hb.mono HZ.out.size))
  replace BP:=hide (BP.out.below hb BP.out.lt)
  replace BQ:=hide (BQ.out.below hb BQ.out.lt)
  replace BR:=hide (BR.out.below hb BR.out.lt)
  replace BV:=hide (BV.out.below hb BV.out.lt)
  replace SG:=hide (SG.out.below hb)
  replace BG:=hide (BG.out.below hb BG.out.lt)
  replace SV5:=hide (SV5.out.below hb)
  replace HKS:=hide (Nat.le_trans HKS.out hb.size)
  clear hb hp0 hp1 hq0 hq1 hr0 hr1
  go_wp2_with fail
  go_ret
  exact ⟨rfl,HW0.out.trans (HZ.out.mono HW0.out.size)⟩
end Go.Proofs.YtbedpgcbfbjgiaaGreatDoor
