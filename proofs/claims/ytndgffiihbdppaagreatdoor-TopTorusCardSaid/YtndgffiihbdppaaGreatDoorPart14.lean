/- Several texts in one. -/
import Derived.Test.YtndgffiihbdppaaGreatDoorPart13
import Derived.BigRegion
import Derived.Deep.DeepCutAuto
import Derived.Test.YtndgffiihbdppaaGreatDoorPart6
import Derived.Test.YtndgffiihbdppaaGreatDoorPart1
import Derived.Test.YtndgffiihbdppaaGreatDoorBase1
import Derived.Test.YtndgffiihbdppaaGreatDoorPart2
import Derived.Deep.RegionWith
import Derived.Lib.SliceRun
namespace Go.Proofs.YtndgffiihbdppaaGreatDoor
set_option linter.unusedVariables false
set_option linter.unusedSimpArgs false
open Go.RowKit

theorem chg_below {g:Nat} {w w':World} (hb:Below w.heap.size w w'):w.grownBy w' (some g):=⟨hb.os,hb.tape,hb.output,hb.size,fun b h _ => hb.block b h⟩
theorem chg_trans {g:Nat} {w w1 w2:World} (h1:w.grownBy w1 (some g)) (h2:w1.grownBy w2 (some g)):w.grownBy w2 (some g):=
  ⟨h2.os.trans h1.os,h2.tape.trans h1.tape,h2.output.trans h1.output,Nat.le_trans h1.size h2.size,fun b h hne => (h2.block b (Nat.lt_of_lt_of_le h h1.size) hne).trans (h1.block b h hne)⟩
theorem chg_set {g i:Nat} {w:World} {v:Value}:w.grownBy (w.setCell ⟨g,i,none⟩ v) (some g):=by
  have h:=(Below.refl g w).setCell (p:=⟨g,i,none⟩) (Nat.le_refl _) v
  exact ⟨h.os,h.tape,h.output,h.size,fun b _ hne => Below.heap_setCell w ⟨g,i,none⟩ v b (fun e => hne (by rw [e]))⟩
structure RowB (w:World) (g n:Nat) (K:Nat → Prop) (X:Nat → LP):Prop where
  blk:∃ cs,Blk w g 26 cs
  at_:∀ j,j < n → ∃ B m d,w.cell? ⟨g,j * 2,none⟩ = some (.int .i64 (LP.canon (X j)).1) ∧ w.cell? ⟨g,j * 2 + 1,none⟩ = some (.slice B m d) ∧ SLK K w B m d (LP.canon (X j)).2
theorem RowB.lt {w:World} {g n:Nat} {K:Nat → Prop} {X:Nat → LP} (h:RowB w g n K X):g < w.heap.size:=by
  obtain ⟨cs,hc⟩:=h.blk
  exact hc.lt
theorem RowB.keep {w w':World} {g n:Nat} {K:Nat → Prop} {X:Nat → LP} (h:RowB w g n K X) (hs:SameK (fun b => b = g ∨ K b) w w') (hz:w.heap.size ≤ w'.heap.size):RowB w' g n K X:=by
  refine ⟨?_,fun j hj => ?_⟩
  · obtain ⟨cs,hc⟩:=h.blk
    exact ⟨cs,(hs g (.inl rfl)).trans hc⟩
  · obtain ⟨B,m,d,h1,h2,h3⟩:=h.at_ j hj
    exact ⟨B,m,d,(hs.cell (a:=⟨g,j * 2,none⟩) (.inl rfl)).trans h1,(hs.cell (a:=⟨g,j * 2 + 1,none⟩) (.inl rfl)).trans h2,h3.keep (hs.mono fun b hb => .inr hb) hz⟩
theorem RowB.mono {w:World} {g n:Nat} {K K':Nat → Prop} {X:Nat → LP} (h:RowB w g n K X) (hk:∀ b,b < w.heap.size → K b → K' b):RowB w g n K' X:=by
  refine ⟨h.blk,fun j hj => ?_⟩
  obtain ⟨B,m,d,h1,h2,h3⟩:=h.at_ j hj
  exact ⟨B,m,d,h1,h2,h3.mono hk⟩
theorem SLK.setCell {w:World} {K:Nat → Prop} {B:Option Addr} {m d g i:Nat} {xs:List Int} {v:Value} (h:SLK K w B m d xs) (hg:¬ K g):SLK K (w.setCell ⟨g,i,none⟩ v) B m d xs:=
  ⟨h.sl.setCell (fun hn ad e hb => hg (by rw [← hb];exact h.inK hn ad e)) i v,h.inK⟩
theorem RowB.congr {w:World} {g n:Nat} {K:Nat → Prop} {X Y:Nat → LP} (h:RowB w g n K X) (he:∀ j,j < n → X j = Y j):RowB w g n K Y:=by
  refine ⟨h.blk,fun j hj => ?_⟩
  rw [← he j hj]
  exact h.at_ j hj
theorem RowB.below {w w':World} {g n:Nat} {K:Nat → Prop} {X:Nat → LP} (h:RowB w g n K X) (hb:Below w.heap.size w w'):RowB w' g n K X:=by
  refine ⟨?_,fun j hj => ?_⟩
  · obtain ⟨cs,hc⟩:=h.blk
    exact ⟨cs,hc.below hb hc.lt⟩
  · obtain ⟨B,m,d,h1,h2,h3⟩:=h.at_ j hj
    exact ⟨B,m,d,(hb.cell (p:=⟨g,j * 2,none⟩) h.lt).trans h1,(hb.cell (p:=⟨g,j * 2 + 1,none⟩) h.lt).trans h2,⟨h3.sl.below hb,h3.inK⟩⟩
theorem RowB.frozen {w:World} {g n:Nat} {K:Nat → Prop} {X:Nat → LP} (h:RowB w g n K X) (i:Nat):w.frozen? ⟨g,i,none⟩ = false:=by
  obtain ⟨cs,hc⟩:=h.blk
  exact hc.frozen i
theorem RowB.set_ {w:World} {g n k:Nat} {K:Nat → Prop} {X:Nat → LP} {x:LP} {B:Option Addr} {m d:Nat} (h:RowB w g n K X) (hg:¬ K g) (hk:k < n) (hs:SLK K w B m d (LP.canon x).2) :
    RowB ((w.setCell ⟨g,k * 2,none⟩ (.int .i64 (LP.canon x).1)).setCell ⟨g,k * 2 + 1,none⟩ (.slice B m d)) g n K (fun j => if j = k then x else X j):=by
  obtain ⟨cs,hc⟩:=h.blk
  have hc0:=hc.set_ (k * 2) (.int .i64 (LP.canon x).1)
  have hc1:=hc0.set_ (k * 2 + 1) (.slice B m d)
  obtain ⟨_,_,_,hk0,hk1,_⟩:=h.at_ k hk
  rw [hc.cell] at hk0 hk1
  obtain ⟨z0,_⟩:=Array.getElem?_eq_some_iff.1 hk0
  obtain ⟨z1,_⟩:=Array.getElem?_eq_some_iff.1 hk1
  refine ⟨⟨_,hc1⟩,fun j hj => ?_⟩
  show ∃ B_1 m_1 d_1,_
  by_cases e:j = k
  · subst e
    rw [if_pos rfl]
    refine ⟨B,m,d,?_,?_,(hs.setCell hg).setCell hg⟩
    · rw [hc1.cell,Array.getElem?_setIfInBounds,if_neg (by omega),Array.getElem?_setIfInBounds,if_pos rfl,if_pos (by simpa using z0)]
    · rw [hc1.cell,Array.getElem?_setIfInBounds,if_pos rfl,if_pos (by simpa using z1)]
  · rw [if_neg e]
    obtain ⟨B',m',d',h1,h2,h3⟩:=h.at_ j hj
    rw [hc.cell] at h1 h2
    refine ⟨B',m',d',?_,?_,(h3.setCell hg).setCell hg⟩
    · rw [hc1.cell,Array.getElem?_setIfInBounds,if_neg (by omega),Array.getElem?_setIfInBounds,if_neg (by omega)];exact h1
    · rw [hc1.cell,Array.getElem?_setIfInBounds,if_neg (by omega),Array.getElem?_setIfInBounds,if_neg (by omega)];exact h2
def stepR (x:Int) (X:Nat → LP):Nat → LP:=fun c => if c + 1 = x.natAbs then X c * e00 x + X (c + 1) * e10 x else if c = x.natAbs then X (c - 1) * e01 x + X c * e11 x else X c
theorem e_n1 (x:Int):LP.N1 (e00 x) 1 2 ∧ LP.N1 (e01 x) 1 2 ∧ LP.N1 (e10 x) 1 2 ∧ LP.N1 (e11 x) 1 2:=by
  have h1:LP.N1 (1:LP) 1 2:=LP.N1.one.mono (by omega) (by omega)
  have h0:LP.N1 (0:LP) 1 2:=LP.N1.zero.mono (by omega) (by omega)
  have ht:LP.N1 tT 1 1:=LP.N1.term 1 1
  have hi:LP.N1 tI 1 1:=LP.N1.term (-1) 1
  have ht2:=ht.mono (Nat.le_refl _) (show 1 ≤ 2 by omega)
  have hi2:=hi.mono (Nat.le_refl _) (show 1 ≤ 2 by omega)
  have h1t:LP.N1 (1 + -tT) 1 2:=(LP.N1.one.mono (Nat.zero_le _) (Nat.le_refl _)).add ht.neg
  have h1i:LP.N1 (1 + -tI) 1 2:=(LP.N1.one.mono (Nat.zero_le _) (Nat.le_refl _)).add hi.neg
  unfold e00 e01 e10 e11
  refine ⟨?_,?_,?_,?_⟩ <;> split <;> assumption
set_option maxRecDepth 100000 in
set_option maxHeartbeats 8000000 in
theorem apply_any (F:PolyC) (g n:Nat) (K:Nat → Prop) (X:Nat → LP) (x:Int) (E V:Nat) (w:World) (h:RowB w g n K X) (hK:∀ b,w.heap.size ≤ b → K b) (hg:¬ K g) (hx:x ≠ 0) (hxn:x.natAbs < n) (hn:n ≤ 6) (hE:E ≤ 16) (hV:V ≤ 20000000) (hN:∀ j,j < n → LP.N1 (X j) E V) :
    Calls Tryz.prog 62 #[.slice (some ⟨g,0,none⟩) n n,.int .i64 x] w fun e w' => e = .returned (.tuple #[]) ∧ RowB w' g n K (stepR x X) ∧ w.grownBy w' (some g):=by
  obtain ⟨m0,m1,m2,m3⟩:=e_n1 x
  have HG:=hide (gen_any x w (by omega) (by omega))
  obtain ⟨i,hi⟩:∃ i,x.natAbs = i:=⟨_,rfl⟩
  have hi1:1 ≤ i:=by omega
  obtain ⟨j,rfl⟩:∃ j,i = j + 1:=⟨i - 1,by omega⟩
  rw [hi] at HG hxn
  have HX:=hide hi
  have hNj:=hN j (by omega)
  have hNi:=hN (j + 1) hxn
  have rt:∀ {a b:LP},LP.N1 a E V → LP.N1 b 1 2 → LP.N1 (a * b) 17 40000000:=fun ha hb => (ha.mul hb).mono (by omega) (by omega)
  have HS0:=hide (fun (w':World) (A:Option Addr) (n c:Nat) (B:Option Addr) (m d:Nat) (C:Option Addr) (l e:Nat) (D:Option Addr) (k f:Nat) (h1:SL w' A n c (LP.canon (X j)).2) (h2:SL w' B m d (LP.canon (e00 x)).2) (h3:SL w' C l e (LP.canon (X (j + 1))).2) (h4:SL w' D k f (LP.canon (e10 x)).2) =>
    sumP_any F (X j) (e00 x) (X (j + 1)) (e10 x) A n c B m d C l e D k f w' h1 h2 h3 h4 (hNj.rt (by omega) (by omega)) (m0.rt (by omega) (by omega)) (hNi.rt (by omega) (by omega)) (m2.rt (by omega) (by omega)) ((rt hNj m0).rt (by omega) (by omega)) ((rt hNi m2).rt (by omega) (by omega)) (((rt hNj m0).add (rt hNi m2)).rt (by omega) (by omega)))
  have HS1:=hide (fun (w':World) (A:Option Addr) (n c:Nat) (B:Option Addr) (m d:Nat) (C:Option Addr) (l e:Nat) (D:Option Addr) (k f:Nat) (h1:SL w' A n c (LP.canon (X j)).2) (h2:SL w' B m d (LP.canon (e01 x)).2) (h3:SL w' C l e (LP.canon (X (j + 1))).2) (h4:SL w' D k f (LP.canon (e11 x)).2) =>
    sumP_any F (X j) (e01 x) (X (j + 1)) (e11 x) A n c B m d C l e D k f w' h1 h2 h3 h4 (hNj.rt (by omega) (by omega)) (m1.rt (by omega) (by omega)) (hNi.rt (by omega) (by omega)) (m3.rt (by omega) (by omega)) ((rt hNj m1).rt (by omega) (by omega)) ((rt hNi m3).rt (by omega) (by omega)) (((rt hNj m1).add (rt hNi m3)).rt (by omega) (by omega)))
  clear rt m0 m1 m2 m3 hNj hNi hN
  have HR:Hid (∀ c,c < n → (if c = j + 1 then X j * e01 x + X (j + 1) * e11 x else if c = j then X j * e00 x + X (j + 1) * e10 x else X c) = stepR x X c):=hide (fun c hc => by
    unfold stepR
    rw [HX.out]
    by_cases h1:c = j + 1
    · subst h1
      rw [if_pos rfl,if_neg (by omega),if_pos rfl,Nat.add_sub_cancel]
    · rw [if_neg h1]
      by_cases h2:c = j
      · subst h2
        rw [if_pos rfl,if_pos rfl]
      · rw [if_neg h2,if_neg (by omega),if_neg h1])
  have HB:=hide (fun w' => block_any x w')
  have H:=hide h
  have hgl:=h.lt
  obtain ⟨A,an,ac,a0,a1,hA⟩:=h.at_ j (by omega)
  obtain ⟨C,cn,cc,b0,b1,hC⟩:=h.at_ (j + 1) hxn
  have HA:=hide hA
  have HC:=hide hC
  have HK:=hide hK
  have HKG:=hide hg
  obtain ⟨la,hla⟩:∃ l,(LP.canon (X j)).1 = l:=⟨_,rfl⟩
  obtain ⟨lc,hlc⟩:∃ l,(LP.canon (X (j + 1))).1 = l:=⟨_,rfl⟩
  rw [hla] at a0 HS0 HS1
  rw [hlc] at b0 HS0 HS1
  clear h hA hC hK hg hi hla hlc hx hE hV
  go_enter Tryz.func62,Tryz.ntmps62
  go_wp2_with fail
  refine HG.out.mono ?_
  rintro e w1 ⟨rfl,hww⟩
  subst hww
  go_upto_region 1 with fail
  go_cut [5,6,10,11,12,13,14,15,16,17,18] (fun v5 v6 _ _ _ _ _ _ _ _ _ wx => ∃ b5 b6,v5 = .pointer (some ⟨b5,0,none⟩) ∧ v6 = .pointer (some ⟨b6,0,none⟩) ∧ Blk wx b5 26 #[.int .i64 la,.slice A an ac] ∧ Blk wx b6 26 #[.int .i64 lc,.slice C cn cc] ∧ w.heap.size ≤ b5 ∧ w.heap.size ≤ b6 ∧ Below w.heap.size w wx)
  case first =>
    have hwj:IntKind.i64.wrap (j:Int) = (j:Int):=by rw [IntKind.wrap_i64];omega
    have hwj1:IntKind.i64.wrap ((j:Int) + 1) = (j:Int) + 1:=by rw [IntKind.wrap_i64];omega
    have z1:Blk ((w.alloc (.cells #[.int .i64 la,.slice A an ac] 26)).alloc (.cells #[.int .i64 lc,.slice C cn cc] 26)).drew w.heap.size 26 #[.int .i64 la,.slice A an ac]:=(Blk.new w 26 #[.int .i64 la,.slice A an ac]).alloc (.cells #[.int .i64 lc,.slice C cn cc] 26)
    have z2:Blk ((w.alloc (.cells #[.int .i64 lc,.slice C cn cc] 26)).alloc (.cells #[.int .i64 la,.slice A an ac] 26)).drew w.heap.size 26 #[.int .i64 lc,.slice C cn cc]:=(Blk.new w 26 #[.int .i64 lc,.slice C cn cc]).alloc (.cells #[.int .i64 la,.slice A an ac] 26)
    have z3:Blk ((w.alloc (.cells #[.int .i64 la,.slice A an ac] 26)).alloc (.cells #[.int .i64 lc,.slice C cn cc] 26)).drew (w.heap.size + 1) 26 #[.int .i64 lc,.slice C cn cc]:=by have h:=Blk.new (w.alloc (.cells #[.int .i64 la,.slice A an ac] 26)) 26 #[.int .i64 lc,.slice C cn cc];rw [World.size_alloc] at h;exact h
    have z4:Blk ((w.alloc (.cells #[.int .i64 lc,.slice C cn cc] 26)).alloc (.cells #[.int .i64 la,.slice A an ac] 26)).drew (w.heap.size + 1) 26 #[.int .i64 la,.slice A an ac]:=by have h:=Blk.new (w.alloc (.cells #[.int .i64 lc,.slice C cn cc] 26)) 26 #[.int .i64 la,.slice A an ac];rw [World.size_alloc] at h;exact h
    have z5:∀ o1 o2,Below w.heap.size w ((w.alloc o1).alloc o2).drew:=fun o1 o2 => (((Below.refl w.heap.size w).alloc (Nat.le_refl _) o1).alloc (by simp) o2).drew
    have Z1:=hide z1
    have Z2:=hide z2
    have Z3:=hide z3
    have Z4:=hide z4
    have Z5:=hide z5
    clear z1 z2 z3 z4 z5
    go_region
    all_goals go_wp2_with fail
    all_goals first
      | (go_meet;exact ⟨_,_,rfl,rfl,Z1.out,Z3.out,Nat.le_refl _,Nat.le_succ _,Z5.out _ _⟩)
      | (go_meet;exact ⟨_,_,rfl,rfl,Z4.out,Z2.out,Nat.le_succ _,Nat.le_refl _,Z5.out _ _⟩)
  case rest =>
    obtain ⟨b5,b6,rfl,rfl,k5,k6,l5,l6,hb⟩:=hcut
    have K5:=hide k5
    have K6:=hide k6
    have z5:=k5.lt
    have z6:=k6.lt
    replace H:=hide (H.out.below hb)
    have HAI:Hid (0 < an → ∀ ad,A = some ad → ad.block ≠ g):=hide (fun hn ad e hb => HKG.out (by rw [← hb];exact HA.out.inK hn ad e))
    have HCI:Hid (0 < cn → ∀ ad,C = some ad → ad.block ≠ g):=hide (fun hn ad e hb => HKG.out (by rw [← hb];exact HC.out.inK hn ad e))
    replace HA:=hide (HA.out.sl.below hb)
    replace HC:=hide (HC.out.sl.below hb)
    have HW:=hide hb
    have hsz:=hb.size
    clear k5 k6 hb a0 a1 b0 b1
    go_wp2_with fail
    refine (HB.out wc).mono ?_
    rintro e w2 ⟨A0,n0,c0,A1,n1,c1,A2,n2,c2,A3,n3,c3,rfl,s0,s1,s2,s3,i1,i3,hb2⟩
    generalize HL0:(LP.canon (e00 x)).1 = l0 at *
    generalize HL1:(LP.canon (e01 x)).1 = l1 at *
    generalize HL2:(LP.canon (e10 x)).1 = l2 at *
    generalize HL3:(LP.canon (e11 x)).1 = l3 at *
    clear HL0 HL1 HL2 HL3
    have hb3:Below w2.heap.size w2 (w2.alloc (.cells #[.int .i64 l0,.slice A0 n0 c0,.int .i64 l1,.slice A1 n1 c1,.int .i64 l2,.slice A2 n2 c2,.int .i64 l3,.slice A3 n3 c3] 102)):=(Below.refl _ _).alloc (Nat.le_refl _) _
    have hb23:=hb2.trans (hb3.mono hb2.size)
    have K7:=hide (Blk.new w2 102 #[.int .i64 l0,.slice A0 n0 c0,.int .i64 l1,.slice A1 n1 c1,.int .i64 l2,.slice A2 n2 c2,.int .i64 l3,.slice A3 n3 c3])
    have S0:=hide (s0.below hb3)
    have S1:=hide (s1.below hb3)
    have S2:=hide (s2.below hb3)
    have S3:=hide (s3.below hb3)
    replace K5:=hide (K5.out.below hb23 z5)
    replace K6:=hide (K6.out.below hb23 z6)
    replace H:=hide (H.out.below hb23)
    replace HA:=hide (HA.out.below hb23)
    replace HC:=hide (HC.out.below hb23)
    replace HW:=hide (HW.out.trans (hb23.mono HW.out.size))
    have hsz2:=hb2.size
    have S1I:Hid (0 < n1 → ∀ ad,A1 = some ad → ad.block ≠ g):=hide (fun hn ad e => by have:=i1 hn ad e;omega)
    have S3I:Hid (0 < n3 → ∀ ad,A3 = some ad → ad.block ≠ g):=hide (fun hn ad e => by have:=i3 hn ad e;omega)
    clear s0 s1 s2 s3 hb2 hb3 hb23 HB i1 i3
    go_upto_region 3 with fail
    obtain ⟨b7,hb7⟩:∃ b,w2.heap.size = b:=⟨_,rfl⟩
    obtain ⟨W3,hW3⟩:∃ W,w2.alloc (.cells #[.int .i64 l0,.slice A0 n0 c0,.int .i64 l1,.slice A1 n1 c1,.int .i64 l2,.slice A2 n2 c2,.int .i64 l3,.slice A3 n3 c3] 102) = W:=⟨_,rfl⟩
    have z7:b7 < W3.heap.size:=by rw [← hW3,← hb7];simp
    rw [hb7] at K7 hsz2 ⊢
    rw [hW3] at K7 K5 K6 H HA HC HW S0 S1 S2 S3 ⊢
    have l7:w.heap.size ≤ b7:=by omega
    have y5:b5 < W3.heap.size:=by omega
    have y6:b6 < W3.heap.size:=by omega
    clear hb7 hW3 hsz hsz2 z5 z6
    have c50:=K5.out.cell 0
    have c51:=K5.out.cell 1
    have c60:=K6.out.cell 0
    have c61:=K6.out.cell 1
    have c70:=K7.out.cell 0
    have c71:=K7.out.cell 1
    have c74:=K7.out.cell 4
    have c75:=K7.out.cell 5
    simp at c50 c51 c60 c61 c70 c71 c74 c75
    go_wp2_with fail
    refine (HS0.out W3 _ _ _ _ _ _ _ _ _ _ _ _ HA.out S0.out HC.out S2.out).mono ?_
    rintro e w4 ⟨P,pn,pc,rfl,hP,hPn,hb4⟩
    clear c50 c51 c60 c61 c70 c71 c74 c75 HS0
    have HP:Hid (SLK K w4 P pn pc (LP.canon (X j * e00 x + X (j + 1) * e10 x)).2):=hide ⟨hP,fun hn ad e => HK.out _ (by have:=hPn hn ad e;have:=HW.out.size;omega)⟩
    replace K5:=hide (K5.out.below hb4 y5)
    replace K6:=hide (K6.out.below hb4 y6)
    replace K7:=hide (K7.out.below hb4 z7)
    replace H:=hide (H.out.below hb4)
    replace HA:=hide (HA.out.below hb4)
    replace HC:=hide (HC.out.below hb4)
    replace S1:=hide (S1.out.below hb4)
    replace S3:=hide (S3.out.below hb4)
    replace HW:=hide (HW.out.trans (hb4.mono HW.out.size))
    obtain ⟨_,_,_,q0,q1,_⟩:=H.out.at_ j (by omega)
    have f0:=H.out.frozen (j * 2)
    have f1:=H.out.frozen (j * 2 + 1)
    have H5:=hide (H.out.set_ (k:=j) HKG.out (by omega) HP.out)
    have HW5:=hide (chg_trans (chg_trans (chg_below (g:=g) HW.out) (chg_set (g:=g) (i:=j * 2) (v:=.int .i64 (LP.canon (X j * e00 x + X (j + 1) * e10 x)).1))) (chg_set (g:=g) (i:=j * 2 + 1) (v:=.slice P pn pc)))
    have d5:b5 ≠ g:=by omega
    have d6:b6 ≠ g:=by omega
    have d7:b7 ≠ g:=by omega
    replace K5:=hide ((K5.out.far (p:=⟨g,j * 2,none⟩) d5 (.int .i64 (LP.canon (X j * e00 x + X (j + 1) * e10 x)).1)).far (p:=⟨g,j * 2 + 1,none⟩) d5 (.slice P pn pc))
    replace K6:=hide ((K6.out.far (p:=⟨g,j * 2,none⟩) d6 (.int .i64 (LP.canon (X j * e00 x + X (j + 1) * e10 x)).1)).far (p:=⟨g,j * 2 + 1,none⟩) d6 (.slice P pn pc))
    replace K7:=hide ((K7.out.far (p:=⟨g,j * 2,none⟩) d7 (.int .i64 (LP.canon (X j * e00 x + X (j + 1) * e10 x)).1)).far (p:=⟨g,j * 2 + 1,none⟩) d7 (.slice P pn pc))
    replace HA:=hide ((HA.out.setCell HAI.out (j * 2) (.int .i64 (LP.canon (X j * e00 x + X (j + 1) * e10 x)).1)).setCell HAI.out (j * 2 + 1) (.slice P pn pc))
    replace HC:=hide ((HC.out.setCell HCI.out (j * 2) (.int .i64 (LP.canon (X j * e00 x + X (j + 1) * e10 x)).1)).setCell HCI.out (j * 2 + 1) (.slice P pn pc))
    replace S1:=hide ((S1.out.setCell S1I.out (j * 2) (.int .i64 (LP.canon (X j * e00 x + X (j + 1) * e10 x)).1)).setCell S1I.out (j * 2 + 1) (.slice P pn pc))
    replace S3:=hide ((S3.out.setCell S3I.out (j * 2) (.int .i64 (LP.canon (X j * e00 x + X (j + 1) * e10 x)).1)).setCell S3I.out (j * 2 + 1) (.slice P pn pc))
    generalize (LP.canon (X j * e00 x + X (j + 1) * e10 x)).1 = lp at *
    clear hP hPn HP H hb4 HAI HCI S1I S3I HW
    go_upto_region 4 with fail
    obtain ⟨W5,hW5⟩:∃ W,(w4.setCell ⟨g,j * 2,none⟩ (.int .i64 lp)).setCell ⟨g,j * 2 + 1,none⟩ (.slice P pn pc) = W:=⟨_,rfl⟩
    rw [hW5] at K5 K6 K7 HA HC S1 S3 H5 HW5 ⊢
    clear hW5 f0 f1 q0 q1
    have c50:=K5.out.cell 0
    have c51:=K5.out.cell 1
    have c60:=K6.out.cell 0
    have c61:=K6.out.cell 1
    have c72:=K7.out.cell 2
    have c73:=K7.out.cell 3
    have c76:=K7.out.cell 6
    have c77:=K7.out.cell 7
    simp at c50 c51 c60 c61 c72 c73 c76 c77
    go_wp2_with fail
    refine (HS1.out W5 _ _ _ _ _ _ _ _ _ _ _ _ HA.out S1.out HC.out S3.out).mono ?_
    rintro e w6 ⟨Q,qn,qc,rfl,hQ,hQn,hb6⟩
    clear c50 c51 c60 c61 c72 c73 c76 c77 HS1
    have HQ:Hid (SLK K w6 Q qn qc (LP.canon (X j * e01 x + X (j + 1) * e11 x)).2):=hide ⟨hQ,fun hn ad e => HK.out _ (by have:=hQn hn ad e;have:=HW5.out.size;omega)⟩
    replace H5:=hide (H5.out.below hb6)
    obtain ⟨_,_,_,q0,q1,_⟩:=H5.out.at_ (j + 1) hxn
    have f0:=H5.out.frozen ((j + 1) * 2)
    have f1:=H5.out.frozen ((j + 1) * 2 + 1)
    have H7:=hide ((H5.out.set_ (k:=j + 1) HKG.out hxn HQ.out).congr HR.out)
    have HW7:=hide (chg_trans (chg_trans (chg_trans HW5.out (chg_below (g:=g) hb6)) (chg_set (g:=g) (i:=(j + 1) * 2) (v:=.int .i64 (LP.canon (X j * e01 x + X (j + 1) * e11 x)).1))) (chg_set (g:=g) (i:=(j + 1) * 2 + 1) (v:=.slice Q qn qc)))
    generalize (LP.canon (X j * e01 x + X (j + 1) * e11 x)).1 = lq at *
    clear hQ hQn HQ H5 hb6 HW5 HA HC S1 S3 K5 K6 K7
    go_wp2_with fail
    go_returns
    exact ⟨rfl,H7.out,HW7.out⟩
end Go.Proofs.YtndgffiihbdppaaGreatDoor
namespace Go.Proofs.YtndgffiihbdppaaGreatDoor
set_option linter.unusedVariables false
set_option linter.unusedSimpArgs false
open Go.RowKit Go.Maps

theorem MapI.setCell {w:World} {b:Nat} {o:List Tm} (h:MapI w b o) {g:Addr} (hg:b ≠ g.block) (v:Value):MapI (w.setCell g v) b o:=⟨h.dict.setCell hg v,h.nodup⟩
theorem MapI.val {w:World} {b:Nat} {o:List Tm} (h:MapI w b o) {x c:Int} (hm:(x,c) ∈ o):coefT o x = c:=by rw [coefT_look h.nodup,lookT_of_mem h.nodup hm];rfl
section
variable (w:World) {ops:Array Oper} {rest:List Oper} {o:Oper} {a:Act} {Q:Exit → Act → World → Prop}
end
def GivesT (w:World) (x:LP) (E:Nat) (e:Ending) (w':World):Prop:=
  ∃ b o,e = .returned (.map (some b)) ∧ w.heap.size ≤ b ∧ MapI w' b o ∧ LP.mk o = x ∧ (∀ p ∈ o,p.1.natAbs ≤ E) ∧ Below w.heap.size w w'
end Go.Proofs.YtndgffiihbdppaaGreatDoor
namespace Go.Proofs.YtndgffiihbdppaaGreatDoor
set_option linter.unusedVariables false
set_option linter.unusedSimpArgs false
open Go.RowKit Go.Maps

section
variable {w w':World} {b r cnt:Nat} {T done rem:List Tm} {x c:Int}
theorem RangeI.all (h:RangeI w b r T done [] cnt):done.Perm T:=by
  have:=h.perm
  rwa [List.append_nil] at this
end

end Go.Proofs.YtndgffiihbdppaaGreatDoor
namespace Go.Proofs.YtndgffiihbdppaaGreatDoor
set_option linter.unusedVariables false
set_option linter.unusedSimpArgs false
open Go.RowKit Go.Maps

def LH (done:List Tm) (low high:Int) (any:Bool):Prop:=
  match any with
  | false => (∀ p ∈ done,p.2 = 0) ∧ low = 0 ∧ high = 0
  | true => (∃ c,c ≠ 0 ∧ (low,c) ∈ done) ∧ (∃ c,c ≠ 0 ∧ (high,c) ∈ done) ∧ ∀ p ∈ done,p.2 ≠ 0 → low ≤ p.1 ∧ p.1 ≤ high
theorem LH.zero {done:List Tm} {low high:Int} {any:Bool} (h:LH done low high any) (x:Int):LH (done ++ [(x,0)]) low high any:=by
  cases any with
  | false => exact ⟨fun p hp => by rcases List.mem_append.1 hp with hp | hp;exact h.1 p hp;rw [List.mem_singleton.1 hp],h.2⟩
  | true =>
    obtain ⟨⟨c,hc,h1⟩,⟨d,hd,h2⟩,h3⟩:=h
    refine ⟨⟨c,hc,List.mem_append_left _ h1⟩,⟨d,hd,List.mem_append_left _ h2⟩,fun p hp h0 => ?_⟩
    rcases List.mem_append.1 hp with hp | hp
    · exact h3 p hp h0
    · rw [List.mem_singleton.1 hp] at h0;exact absurd rfl h0
theorem LH.first {done:List Tm} {low high:Int} (h:LH done low high false) (x:Int) {c:Int} (hc:c ≠ 0):LH (done ++ [(x,c)]) x x true:=by
  refine ⟨⟨c,hc,by simp⟩,⟨c,hc,by simp⟩,fun p hp h0 => ?_⟩
  rcases List.mem_append.1 hp with hp | hp
  · exact absurd (h.1 p hp) h0
  · rw [List.mem_singleton.1 hp];exact ⟨Int.le_refl _,Int.le_refl _⟩
theorem LH.next {done:List Tm} {low high:Int} (h:LH done low high true) (x:Int) {c:Int} (hc:c ≠ 0):LH (done ++ [(x,c)]) (if x < low then x else low) (if high < x then x else high) true:=by
  obtain ⟨⟨c1,hc1,h1⟩,⟨d,hd,h2⟩,h3⟩:=h
  refine ⟨?_,?_,fun p hp h0 => ?_⟩
  · by_cases e:x < low
    · rw [if_pos e];exact ⟨c,hc,by simp⟩
    · rw [if_neg e];exact ⟨c1,hc1,List.mem_append_left _ h1⟩
  · by_cases e:high < x
    · rw [if_pos e];exact ⟨c,hc,by simp⟩
    · rw [if_neg e];exact ⟨d,hd,List.mem_append_left _ h2⟩
  · rcases List.mem_append.1 hp with hp | hp
    · have:=h3 p hp h0
      split <;> split <;> omega
    · rw [List.mem_singleton.1 hp]
      show (if x < low then x else low) ≤ x ∧ x ≤ (if high < x then x else high)
      split <;> split <;> omega
end Go.Proofs.YtndgffiihbdppaaGreatDoor
namespace Go.Proofs.YtndgffiihbdppaaGreatDoor
set_option linter.unusedVariables false
set_option linter.unusedSimpArgs false
open Go.RowKit

def TV (w:World) (b:Nat) (x:LP) (E:Nat):Prop:=∃ T,MapI w b T ∧ LP.mk T = x ∧ ∀ p ∈ T,p.1.natAbs ≤ E
theorem TV.lt {w:World} {b:Nat} {x:LP} {E:Nat} (h:TV w b x E):b < w.heap.size:=by obtain ⟨T,h,_⟩:=h;exact h.lt
theorem TV.mono {w:World} {b:Nat} {x:LP} {E E':Nat} (h:TV w b x E) (he:E ≤ E'):TV w b x E':=by
  obtain ⟨T,h1,h2,h3⟩:=h;exact ⟨T,h1,h2,fun p hp => Nat.le_trans (h3 p hp) he⟩
theorem TV.same {w w':World} {b:Nat} {x:LP} {E:Nat} (h:TV w b x E) (hb:w'.heap[b]? = w.heap[b]?):TV w' b x E:=by
  obtain ⟨T,h1,h2,h3⟩:=h
  refine ⟨T,⟨?_,h1.nodup⟩,h2,h3⟩
  obtain ⟨D,⟨es,clock,hbl,r1⟩,r⟩:=h1.dict.own
  exact ⟨⟨D,⟨es,clock,hb.trans hbl,r1⟩,r⟩⟩
theorem TV.below {w w':World} {b:Nat} {x:LP} {E:Nat} (h:TV w b x E) (hb:Below w.heap.size w w'):TV w' b x E:=h.same (hb.block b h.lt)
def GivesV (w:World) (x:LP) (E:Nat) (e:Ending) (w':World):Prop:=∃ b,e = .returned (.map (some b)) ∧ w.heap.size ≤ b ∧ TV w' b x E ∧ Below w.heap.size w w'
theorem GivesT.v {w:World} {x:LP} {E:Nat} {e:Ending} {w':World} (h:GivesT w x E e w'):GivesV w x E e w':=by
  obtain ⟨b,o,h1,h2,h3,h4,h5,h6⟩:=h
  exact ⟨b,h1,h2,⟨o,h3,h4,h5⟩,h6⟩
def QP:RdI Po:=fun K w us p => ∃ B m d,us = [.int .i64 p.1,.slice B m d] ∧ SLK K w B m d p.2 ∧ (Lit.int .i64 p.1).wf = true
theorem QP_ok:RdOk QP:=⟨fun hk hs ⟨B,m,d,e,h,hw⟩ => ⟨B,m,d,e,h.keep hk hs,hw⟩,fun hk ⟨B,m,d,e,h,hw⟩ => ⟨B,m,d,e,h.mono hk,hw⟩⟩
theorem SPo.rd {w:World} {A:Option Addr} {n c:Nat} {ps:List Po} (h:SPo w A n c ps):Rd QP 2 w A n c ps:=
  ⟨h.len, h.small, h.nil, h.cap, fun hn => by
    obtain ⟨ad,e,hl,hc⟩:=h.mem hn
    refine ⟨ad,e,hl,hl,fun j hj => ?_⟩
    obtain ⟨B,m,d,h1,h2,h3,h4⟩:=hc j (by rw [← h.len];exact hj)
    have ed:ps.getD j (0,[]) = ps[j]:=by simp [List.getD,List.getElem?_eq_getElem hj]
    rw [ed] at h1 h3 h4
    have hsp : ∃ v, w.cell? ⟨(ad.add (j * 2)).block, (ad.add (j * 2)).off, none⟩ = some v ∧ v = .int .i64 ps[j].1 := by
      refine ⟨_,?_,rfl⟩
      have e2:w.cell? (ad.add (j * 2)) = some (.int .i64 ps[j].1):=h1
      unfold World.cell? at e2 ⊢
      show (match w.heap[(ad.add (j * 2)).block]? with | some (.cells c _ _) => if (none:Option _).isSome then none else c[(ad.add (j * 2)).off]? | _ => none) = _
      split at e2
      · next hq => rw [hq];split at e2;· cases e2
                   · exact e2
      · cases e2
    obtain ⟨v,hv,rfl⟩:=hsp
    refine ⟨[.int .i64 ps[j].1,.slice B m d],rfl,h1,fun i hi => ?_,B,m,d,rfl,h3.k,h4⟩
    rcases Nat.lt_or_ge i 1 with hi1 | hi1
    · obtain rfl:i = 0:=by omega
      exact hv
    · obtain rfl:i = 1:=by omega
      exact h2⟩
theorem Rd.spo {w:World} {A:Option Addr} {n c:Nat} {ps:List Po} (h:Rd QP 2 w A n c ps):SPo w A n c ps:=
  ⟨h.len,h.small,h.nil,h.cap,fun hn => by
    obtain ⟨ad,e,hl,_,hc⟩:=h.mem hn
    refine ⟨ad,e,hl,fun j hj => ?_⟩
    have hj2:j < ps.length:=by rw [h.len];exact hj
    obtain ⟨us,h1,h0,h2,B,m,d,e3,h3,h4⟩:=hc j hj2
    have ed:ps.getD j (0,[]) = ps[j]:=by simp [List.getD,List.getElem?_eq_getElem hj2]
    subst e3
    rw [ed]
    exact ⟨B,m,d,h0,h2 1 (by omega),h3.sl,h4⟩⟩
theorem SPP.rd {w:World} {A:Option Addr} {n c:Nat} {pss:List (List Po)} (h:SPP w A n c pss):Rd (QS QP 2) 1 w A n c pss:=
  ⟨h.len, h.small, h.nil, h.cap, fun hn => by
    obtain ⟨ad,e,hl,hc⟩:=h.mem hn
    refine ⟨ad,e,hl,hl,fun j hj => ?_⟩
    obtain ⟨B,m,d,h1,h2⟩:=hc j (by rw [← h.len];exact hj)
    have ed:pss.getD j [] = pss[j]:=by simp [List.getD,List.getElem?_eq_getElem hj]
    rw [ed] at h2
    refine ⟨[.slice B m d],rfl,by rw [Nat.mul_one];exact h1,fun i hi => ?_,B,m,d,rfl,h2.rd⟩
    obtain rfl:i = 0:=by omega
    have e2:w.cell? (ad.add (j * 1)) = some (.slice B m d):=by rw [Nat.mul_one];exact h1
    show w.cell? ⟨(ad.add (j * 1)).block,(ad.add (j * 1)).off,none⟩ = some (.slice B m d)
    unfold World.cell? at e2 ⊢
    show (match w.heap[(ad.add (j * 1)).block]? with | some (.cells c _ _) => if (none:Option _).isSome then none else c[(ad.add (j * 1)).off]? | _ => none) = _
    split at e2
    · next hq => rw [hq];split at e2;· cases e2
                 · exact e2
    · cases e2⟩
end Go.Proofs.YtndgffiihbdppaaGreatDoor
namespace Go.Proofs.YtndgffiihbdppaaGreatDoor
set_option linter.unusedVariables false
set_option linter.unusedSimpArgs false
open Go.RowKit

theorem prows_info:(Tryz.prog.info? 67).map (fun i => (i.zero,i.size,i.bytes)) = some (some (.slice none 0 0),1,24):=by kernel_rfl
theorem polys_info:(Tryz.prog.info? 26).map (fun i => (i.zero,i.size,i.bytes)) = some (some (.agg #[.int .i64 0,.slice none 0 0]),2,32):=by kernel_rfl
structure RowsP (w:World) (vs:List Value) (xss:List (List Po)):Prop where
  len:vs.length = xss.length
  row:∀ j,j < xss.length → ∃ B m d,vs[j]? = some (.slice B m d) ∧ SPo w B m d (xss.getD j [])
theorem RowsP.below {w w':World} {vs:List Value} {xss:List (List Po)} (h:RowsP w vs xss) (hb:Below w.heap.size w w'):RowsP w' vs xss:=⟨h.len,fun j hj => by
  obtain ⟨B,m,d,h1,h2⟩:=h.row j hj
  exact ⟨B,m,d,h1,h2.below hb⟩⟩
theorem RowsP.set_ {w:World} {vs:List Value} {xss:List (List Po)} {j:Nat} {B:Option Addr} {m d:Nat} {r:List Po} (h:RowsP w vs xss) (hs:SPo w B m d r):RowsP w (vs.set j (.slice B m d)) (xss.set j r):=by
  refine ⟨by simp [h.len],fun i hi => ?_⟩
  rw [List.length_set] at hi
  by_cases e:j = i
  · subst e
    refine ⟨B,m,d,by rw [List.getElem?_set_self (by rw [h.len];exact hi)],?_⟩
    have:(xss.set j r).getD j [] = r:=by simp [List.getD,List.getElem?_set_self hi]
    rw [this]
    exact hs
  · obtain ⟨B',m',d',h1,h2⟩:=h.row i hi
    refine ⟨B',m',d',by rw [List.getElem?_set_ne e];exact h1,?_⟩
    have:(xss.set j r).getD i [] = xss.getD i []:=by simp [List.getD,List.getElem?_set_ne e]
    rw [this]
    exact h2
end Go.Proofs.YtndgffiihbdppaaGreatDoor
namespace Go.Proofs.YtndgffiihbdppaaGreatDoor
set_option linter.unusedVariables false
set_option linter.unusedSimpArgs false
open Go.RowKit

theorem bu_snoc {n:Nat} {w:List Int} {x:Int} (hx:x ≠ 0) (hxn:x.natAbs < n) {r c:Nat} (hr:r < n) (hc:c < n):bu n (w ++ [x]) r c = stepR x (bu n w r) c:=by
  have h1:bu n (w ++ [x]) r c = mulM n (bu n w) (bl x) r c:=by
    rw [bu_append n w [x] r hr c hc]
    exact ((EqM.refl n _).mul (EqM.mul_one n (bl x))) r hr c hc
  rw [h1]
  show CR.sumN n (fun k => bu n w r k * bl x k c) = _
  generalize bu n w r = Y
  unfold stepR e00 e01 e10 e11 bl
  obtain ⟨a,ha⟩:∃ a,x.natAbs = a:=⟨_,rfl⟩
  have ha1:1 ≤ a:=by omega
  rw [ha] at hxn ⊢
  by_cases c1:c + 1 = a
  · rw [if_pos c1,sumN_two (a:=c) (b:=c + 1) hc (by omega) (by omega) (fun i _ h3 h4 => by
      rw [if_neg (by omega),if_neg (by omega),if_neg (by omega),CR.mul_zero])]
    simp only [if_pos c1,if_neg (show ¬ c + 1 + 1 = a by omega),if_true,if_neg (show ¬ c = c + 1 by omega)]
  · rw [if_neg c1]
    by_cases c2:c = a
    · rw [if_pos c2,sumN_two (a:=c - 1) (b:=c) (by omega) hc (by omega) (fun i _ h3 h4 => by
        rw [if_neg (by omega),if_neg (by omega),if_neg (by omega),CR.mul_zero])]
      have e1:c - 1 + 1 = c:=by omega
      simp only [e1,if_pos c2,if_neg c1,if_true,if_neg (show ¬ c = c - 1 by omega),if_neg (show ¬ c + 1 = c by omega)]
    · rw [if_neg c2,CR.sumN_single (k:=c) hc (fun i _ h3 => ?_)]
      · rw [if_neg c1,if_neg c2,if_pos rfl,CR.mul_one]
      · by_cases h4:i + 1 = a
        · rw [if_pos h4]
          simp only [if_neg (show ¬ c = i by omega),if_neg (show ¬ c = i + 1 by omega)]
          split <;> exact CR.mul_zero _
        · by_cases h5:i = a
          · rw [if_neg h4,if_pos h5]
            simp only [if_neg (show ¬ c + 1 = i by omega),if_neg (show ¬ c = i by omega)]
            split <;> exact CR.mul_zero _
          · rw [if_neg h4,if_neg h5,if_neg h3,CR.mul_zero]

theorem RowB.grown {w w':World} {g g' n:Nat} {K:Nat → Prop} {X:Nat → LP} (h:RowB w g n K X) (hg:w.grownBy w' (some g')) (hne:g' ≠ g) (hK:∀ b,K b → b ≠ g'):RowB w' g n K X:=
  ((h.mono (K':=fun b => b < w.heap.size ∧ K b) fun b hl hb => ⟨hl,hb⟩).keep (fun b hb => by
    rcases hb with rfl | ⟨hl,hb⟩
    · exact hg.block b h.lt (fun e => hne (by injection e with e;exact e.symm))
    · exact hg.block b hl (fun e => hK b hb (by injection e))) hg.size).mono fun b _ hb => hb.2
def FreB (go:Nat) (gr:Nat → Nat) (k:Nat) (b:Nat):Prop:=b ≠ go ∧ ∀ i,i < k → gr i ≠ b
structure MatB (w:World) (base go n:Nat) (gr:Nat → Nat) (k:Nat) (X:Mtx LP):Prop where
  blk:∃ cs,Blk w go 67 cs
  out:∀ i,i < k → w.cell? ⟨go,i,none⟩ = some (.slice (some ⟨gr i,0,none⟩) n n)
  row:∀ i,i < k → RowB w (gr i) n (FreB go gr k) (X i)
  ne:∀ i,i < k → gr i ≠ go
  inj:∀ i j,i < k → j < k → gr i = gr j → i = j
  base_le:base ≤ go ∧ ∀ i,i < k → base ≤ gr i
theorem MatB.lt {w:World} {base go n:Nat} {gr:Nat → Nat} {k:Nat} {X:Mtx LP} (h:MatB w base go n gr k X):go < w.heap.size:=by
  obtain ⟨cs,hc⟩:=h.blk
  exact hc.lt
theorem MatB.fresh {w:World} {base go n:Nat} {gr:Nat → Nat} {k:Nat} {X:Mtx LP} (h:MatB w base go n gr k X):∀ b,w.heap.size ≤ b → FreB go gr k b:=fun b hb =>
  ⟨fun e => by have:=h.lt;omega,fun i hi e => by have:=(h.row i hi).lt;omega⟩
theorem MatB.chg {w w':World} {base go n:Nat} {gr:Nat → Nat} {k:Nat} {X Y:Mtx LP} (h:MatB w base go n gr k X) {r:Nat} (hr:r < k) (hg:w.grownBy w' (some (gr r))) (hrow:RowB w' (gr r) n (FreB go gr k) (Y r)) (hY:∀ i,i < k → i ≠ r → ∀ c,c < n → X i c = Y i c):MatB w' base go n gr k Y:=by
  have hgo:w'.heap[go]? = w.heap[go]?:=hg.block go h.lt (fun e => h.ne r hr (by injection e with e;exact e.symm))
  refine ⟨?_,fun i hi => ?_,fun i hi => ?_,h.ne,h.inj,h.base_le⟩
  · obtain ⟨cs,hc⟩:=h.blk
    exact ⟨cs,hgo.trans hc⟩
  · rw [← h.out i hi]
    exact World.cell?_of_block (w:=w) (a:=⟨go,i,none⟩) hgo
  · by_cases e:i = r
    · subst e;exact hrow
    · exact ((h.row i hi).grown hg (fun e2 => e (h.inj i r hi hr e2.symm)) (fun b hb e2 => hb.2 r hr e2.symm)).congr (hY i hi e)
theorem MatB.below {w w':World} {base go n:Nat} {gr:Nat → Nat} {k:Nat} {X:Mtx LP} (h:MatB w base go n gr k X) (hb:Below w.heap.size w w'):MatB w' base go n gr k X:=by
  refine ⟨?_,fun i hi => ?_,fun i hi => (h.row i hi).below hb,h.ne,h.inj,h.base_le⟩
  · obtain ⟨cs,hc⟩:=h.blk
    exact ⟨cs,hc.below hb hc.lt⟩
  · rw [← h.out i hi]
    exact hb.cell (p:=⟨go,i,none⟩) h.lt
theorem MatB.congr {w:World} {base go n:Nat} {gr:Nat → Nat} {k:Nat} {X Y:Mtx LP} (h:MatB w base go n gr k X) (hY:∀ i,i < k → ∀ c,c < n → X i c = Y i c):MatB w base go n gr k Y:=
  ⟨h.blk,h.out,fun i hi => (h.row i hi).congr (hY i hi),h.ne,h.inj,h.base_le⟩
theorem RowB.spo {w:World} {g n:Nat} {K:Nat → Prop} {X:Nat → LP} (h:RowB w g n K X) (hn:n ≤ 1000) (hR:∀ j,j < n → LP.Rt (X j)):SPo w (some ⟨g,0,none⟩) n n ((List.range n).map fun j => cP (X j)):=by
  refine ⟨by simp,by omega,fun e => (by cases e),Nat.le_refl _,fun h0 => ⟨_,rfl,h.lt,fun j hj => ?_⟩⟩
  obtain ⟨B,m,d,h1,h2,h3⟩:=h.at_ j hj
  have e1:((List.range n).map fun j => cP (X j)).getD j (0,[]) = cP (X j):=by simp [List.getD,hj]
  have e2:(⟨g,0,none⟩:Addr).add (j * 2) = ⟨g,j * 2,none⟩:=by unfold Addr.add;split <;> simp_all
  rw [e1,e2]
  exact ⟨B,m,d,h1,h2,h3.sl,(hR j hj).wf⟩
theorem MatB.spp {w:World} {base go n:Nat} {gr:Nat → Nat} {X:Mtx LP} (h:MatB w base go n gr n X) (hn:n ≤ 1000) (hR:∀ i,i < n → ∀ j,j < n → LP.Rt (X i j)):SPP w (some ⟨go,0,none⟩) n n ((List.range n).map fun i => (List.range n).map fun j => cP (X i j)):=by
  refine ⟨by simp,by omega,fun e => (by cases e),Nat.le_refl _,fun h0 => ⟨_,rfl,h.lt,fun i hi => ?_⟩⟩
  have e1:((List.range n).map fun i => (List.range n).map fun j => cP (X i j)).getD i [] = (List.range n).map fun j => cP (X i j):=by simp [List.getD,hi]
  have e2:(⟨go,0,none⟩:Addr).add i = ⟨go,i,none⟩:=by unfold Addr.add;split <;> simp_all
  rw [e1,e2]
  exact ⟨_,_,_,h.out i hi,(h.row i hi).spo hn (hR i hi)⟩
theorem RowB.zero {w:World} {base g n:Nat} {K:Nat → Prop} (h:w.ownsRow base 26 2 (.slice (some ⟨g,0,none⟩) n n) n (madeCells #[.int .i64 0,.slice none 0 0] (n * 2)).toList) (hn:n ≤ 1000):RowB w g n K (fun _ => 0):=by
  have ho:OwnG 26 2 w base (some ⟨g,0,none⟩) n n (madeCells #[.int .i64 0,.slice none 0 0] (n * 2)).toList:=⟨h,by omega⟩
  obtain ⟨cs,_,hc⟩:=ho.cells g rfl
  refine ⟨⟨cs,hc⟩,fun j hj => ⟨none,0,0,?_,?_,?_⟩⟩
  · show w.cell? _ = some (.int .i64 (LP.canon 0).1)
    rw [ho.cellAt (by omega),canon_zero,Array.getElem?_toList]
    unfold madeCells
    simp [show j * 2 < n * 2 by omega]
  · rw [ho.cellAt (by omega),Array.getElem?_toList]
    unfold madeCells
    simp [show j * 2 + 1 < n * 2 by omega]
  · show SLK K w none 0 0 (LP.canon 0).2
    rw [canon_zero]
    exact ⟨SL.nil_ _,fun h0 => absurd h0 (by omega)⟩
end Go.Proofs.YtndgffiihbdppaaGreatDoor
namespace Go.Proofs.YtndgffiihbdppaaGreatDoor
set_option linter.unusedVariables false
set_option linter.unusedSimpArgs false
open Go.RowKit

set_option maxRecDepth 100000 in
set_option maxHeartbeats 2000000 in
theorem intIndex_any {fid:FuncId} {caps:List Value} (f:Int → Bool) (hfid:∀ args w,(callFunc fid args).run Tryz.prog w = .ok (.enter fid args) w) (A:Option Addr) (n c:Nat) (xs:List Int) (w:World) (ha:IL w A n xs)
    (hf:∀ x w,Calls Tryz.prog fid (.int .i64 x :: caps).toArray w fun e w' => e = .returned (.bool (f x)) ∧ w = w') :
    Calls Tryz.prog 73 #[.slice A n c,.func (.func fid) #[] caps.toArray] w fun e w' => ((e = .returned (.int .i64 (-1)) ∧ ∀ j,j < n → f (xs.getD j 0) = false) ∨ ∃ k:Nat,e = .returned (.int .i64 k) ∧ k < n ∧ f (xs.getD k 0) = true ∧ ∀ j,j < k → f (xs.getD j 0) = false) ∧ w = w':=by
  have hs:=ha.small
  have HA:=hide ha
  have HF:=hide hf
  clear ha hf
  go_enter Tryz.func73,Tryz.ntmps73
  go_wp2
  go_loop [8] (fun i => ∃ k:Nat,k ≤ n ∧ i = .int .i64 k ∧ Hid (∀ j,j < k → f (xs.getD j 0) = false)) (fun i => n - (intOf i).toNat)
  case atStart => exact ⟨0,Nat.zero_le _,rfl,hide (fun j hj => absurd hj (by omega))⟩
  case round =>
    obtain ⟨k,hk,rfl,HN⟩:=hrel
    by_cases hlt:k < n
    · obtain ⟨ad,rfl,hc⟩:=HA.out.at_ hlt
      have HC:=hide (HF.out (xs.getD k 0) w)
      by_cases hfk:f (xs.getD k 0) = true
      · have HY:=hide hfk
        rw [hfk] at HC
        clear hfk
        go_wp2_with fail
        refine HC.out.mono ?_
        rintro e w1 ⟨rfl,rfl⟩
        go_wp2_with fail
        go_ret
        exact ⟨.inr ⟨k,rfl,hlt,HY.out,HN.out⟩,rfl⟩
      · have hfk':f (xs.getD k 0) = false:=by simpa using hfk
        have HN2:Hid (∀ j,j < k + 1 → f (xs.getD j 0) = false):=hide (fun j hj => by
          by_cases e:j = k
          · rw [e];exact hfk'
          · exact HN.out j (by omega))
        rw [hfk'] at HC
        clear hfk hfk'
        go_wp2_with fail
        refine HC.out.mono ?_
        rintro e w1 ⟨rfl,rfl⟩
        go_wp2_with fail
        go_round
        case rel => exact ⟨k + 1,by omega,by go_num,HN2⟩
        case measure => simp [intOf];omega
    · go_wp2_with fail
      go_ret
      exact ⟨.inl ⟨rfl,fun j hj => HN.out j (by omega)⟩,rfl⟩
theorem eIntIx:∀ args w,(callFunc 73 args).run Tryz.prog w = .ok (.enter 73 args) w:=enters (fn:=Tryz.f73) (by kernel_rfl) (by kernel_rfl) (by kernel_rfl)
end Go.Proofs.YtndgffiihbdppaaGreatDoor
