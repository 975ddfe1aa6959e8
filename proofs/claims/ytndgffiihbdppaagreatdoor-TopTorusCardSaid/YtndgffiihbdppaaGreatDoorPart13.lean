/- Several texts in one. -/
import Derived.Test.YtndgffiihbdppaaGreatDoorPart12
import Derived.Test.YtndgffiihbdppaaGreatDoorBase1
import Derived.Test.YtndgffiihbdppaaGreatDoorPart1
namespace Go.Proofs.YtndgffiihbdppaaGreatDoor
set_option linter.unusedVariables false
set_option linter.unusedSimpArgs false
open Go.RowKit

def e00 (x:Int):LP:=if 0 < x then 1 + -tT else 0
def e01 (x:Int):LP:=if 0 < x then tT else 1
def e10 (x:Int):LP:=if 0 < x then 1 else tI
def e11 (x:Int):LP:=if 0 < x then 0 else 1 + -tI
theorem canon_zero:LP.canon 0 = (0,[]):=LP.canon_eq (.inl ⟨rfl,rfl⟩) rfl
theorem canon_one:LP.canon 1 = (0,[1]):=LP.canon_eq (.inr ⟨by simp,by decide,by decide⟩) (by unfold LP.of;rfl)
theorem canon_tT:LP.canon tT = (1,[1]):=LP.canon_eq (.inr ⟨by simp,by decide,by decide⟩) (by unfold LP.of;rfl)
theorem canon_tI:LP.canon tI = (-1,[1]):=LP.canon_eq (.inr ⟨by simp,by decide,by decide⟩) (by unfold LP.of;rfl)
theorem canon_one_tT:LP.canon (1 + -tT) = (0,[1,-1]):=LP.canon_eq (.inr ⟨by simp,by decide,by decide⟩) (by unfold LP.of;rfl)
theorem canon_one_tI:LP.canon (1 + -tI) = (-1,[-1,1]):=LP.canon_eq (.inr ⟨by simp,by decide,by decide⟩) (by unfold LP.of;rw [CR.add_comm];rfl)
def GivesB (w:World) (x:Int) (e:Ending) (w':World):Prop:=
  ∃ A n c B m d C l f D k g,e = .returned (.agg #[.int .i64 (LP.canon (e00 x)).1,.slice A n c,.int .i64 (LP.canon (e01 x)).1,.slice B m d,.int .i64 (LP.canon (e10 x)).1,.slice C l f,.int .i64 (LP.canon (e11 x)).1,.slice D k g]) ∧
    SL w' A n c (LP.canon (e00 x)).2 ∧ SL w' B m d (LP.canon (e01 x)).2 ∧ SL w' C l f (LP.canon (e10 x)).2 ∧ SL w' D k g (LP.canon (e11 x)).2 ∧ NewA w B m ∧ NewA w D k ∧ Below w.heap.size w w'
theorem eBpoly:∀ args w,(callFunc 75 args).run Tryz.prog w = .ok (.enter 75 args) w:=enters (fn:=Tryz.f75) (by kernel_rfl) (by kernel_rfl) (by kernel_rfl)

set_option maxRecDepth 100000 in
theorem results_sq {fn:Func} {t:Tmp} {b:Nat} {v0 v1 v2 v3 v4 v5 v6 v7:Value} {w:World} (h:fn.results = #[.cell t 102]) (tmps:Array Value) (ht:tmps.getD t undef = .pointer (some ⟨b,0,none⟩)) (hb:Blk w b 102 #[v0,v1,v2,v3,v4,v5,v6,v7]) :
    (results fn tmps).run Tryz.prog w = .ok (.agg #[v0,v1,v2,v3,v4,v5,v6,v7]) w:=by
  have h0:=hb.cell 0
  have h1:=hb.cell 1
  have h2:=hb.cell 2
  have h3:=hb.cell 3
  have h4:=hb.cell 4
  have h5:=hb.cell 5
  have h6:=hb.cell 6
  have h7:=hb.cell 7
  simp at h0 h1 h2 h3 h4 h5 h6 h7
  have ht2:tmps[t]?.getD undef = .pointer (some ⟨b,0,none⟩):=by simpa using ht
  simp [results,h,ht2,go_sem,h0,h1,h2,h3,h4,h5,h6,h7,Result.andThen]

set_option maxRecDepth 100000 in
set_option maxHeartbeats 4000000 in
theorem block_pos (x:Int) (w:World) (h0:0 < x):Calls Tryz.prog 76 #[.int .i64 x] w (GivesB w x):=by
  have hW0:Below w.heap.size w (w.alloc (.cells #[.int .i64 0,.slice none 0 0,.int .i64 0,.slice none 0 0,.int .i64 0,.slice none 0 0,.int .i64 0,.slice none 0 0] 102)):=(Below.refl _ _).alloc (Nat.le_refl _) _
  have HW:=hide hW0
  have HK:=hide (Blk.new w 102 #[.int .i64 0,.slice none 0 0,.int .i64 0,.slice none 0 0,.int .i64 0,.slice none 0 0,.int .i64 0,.slice none 0 0])
  go_enter Tryz.func76,Tryz.ntmps76
  go_upto_region 2 with fail
  obtain ⟨W0,hw0⟩:∃ W,w.alloc (.cells #[.int .i64 0,.slice none 0 0,.int .i64 0,.slice none 0 0,.int .i64 0,.slice none 0 0,.int .i64 0,.slice none 0 0] 102) = W:=⟨_,rfl⟩
  have hz0:w.heap.size < W0.heap.size:=by rw [← hw0];simp
  rw [hw0] at HW HK ⊢
  obtain ⟨b0,hb0⟩:∃ b,w.heap.size = b:=⟨_,rfl⟩
  rw [hb0] at hz0 HK ⊢
  have HZ:=hide hb0
  clear hw0 hb0 hW0
  go_wp2_with fail
  have hl:=SL.lit W0 [1,-1] (by decide) (cs:=#[.int .i64 1,.int .i64 (-1)]) rfl (m:=2) rfl
  have hb:=(Below.refl W0.heap.size W0).alloc (Nat.le_refl _) (.cells #[.int .i64 1,.int .i64 (-1)] 3)
  obtain ⟨V1,hV⟩:∃ V,W0.alloc (.cells #[.int .i64 1,.int .i64 (-1)] 3) = V:=⟨_,rfl⟩
  rw [hV] at hl hb ⊢
  refine (bpoly_any 0 _ _ _ V1).mono ?_
  rintro e W1 ⟨rfl,hc⟩
  have hbc:=hb.trans (hc.mono hb.size)
  have HS1:=hide (hl.below hc)
  replace HW:=hide (HW.out.trans (hbc.mono HW.out.size))
  replace HK:=hide (HK.out.below hbc (by omega))
  have hz1:b0 < W1.heap.size:=by have:=hbc.size;omega
  clear hl hb hc hbc hV
  go_wp2_with fail
  have hl:=SL.lit W1 [1] (by decide) (cs:=#[.int .i64 1]) rfl (m:=1) rfl
  have hb:=(Below.refl W1.heap.size W1).alloc (Nat.le_refl _) (.cells #[.int .i64 1] 3)
  obtain ⟨V2,hV⟩:∃ V,W1.alloc (.cells #[.int .i64 1] 3) = V:=⟨_,rfl⟩
  rw [hV] at hl hb ⊢
  refine (bpoly_any 1 _ _ _ V2).mono ?_
  rintro e W2 ⟨rfl,hc⟩
  have hbc:=hb.trans (hc.mono hb.size)
  have HS2:=hide (hl.below hc)
  replace HS1:=hide (HS1.out.below hbc)
  replace HW:=hide (HW.out.trans (hbc.mono HW.out.size))
  replace HK:=hide (HK.out.below hbc (by omega))
  have hz2:b0 < W2.heap.size:=by have:=hbc.size;omega
  clear hl hb hc hbc hV
  go_wp2_with fail
  have hl:=SL.lit W2 [1] (by decide) (cs:=#[.int .i64 1]) rfl (m:=1) rfl
  have hb:=(Below.refl W2.heap.size W2).alloc (Nat.le_refl _) (.cells #[.int .i64 1] 3)
  obtain ⟨V3,hV⟩:∃ V,W2.alloc (.cells #[.int .i64 1] 3) = V:=⟨_,rfl⟩
  rw [hV] at hl hb ⊢
  refine (bpoly_any 0 _ _ _ V3).mono ?_
  rintro e W3 ⟨rfl,hc⟩
  have hbc:=hb.trans (hc.mono hb.size)
  have HS3:=hide (hl.below hc)
  replace HS1:=hide (HS1.out.below hbc)
  replace HS2:=hide (HS2.out.below hbc)
  replace HW:=hide (HW.out.trans (hbc.mono HW.out.size))
  replace HK:=hide (HK.out.below hbc (by omega))
  have hz3:b0 < W3.heap.size:=by have:=hbc.size;omega
  clear hl hb hc hbc hV
  have f0:=HK.out.frozen 0
  have g0:=HK.out.cell 0
  have f1:=HK.out.frozen 1
  have g1:=HK.out.cell 1
  have f2:=HK.out.frozen 2
  have g2:=HK.out.cell 2
  have f3:=HK.out.frozen 3
  have g3:=HK.out.cell 3
  have f4:=HK.out.frozen 4
  have g4:=HK.out.cell 4
  have f5:=HK.out.frozen 5
  have g5:=HK.out.cell 5
  have f6:=HK.out.frozen 6
  have g6:=HK.out.cell 6
  have f7:=HK.out.frozen 7
  have g7:=HK.out.cell 7
  simp at g0 g1 g2 g3 g4 g5 g6 g7
  go_wp2_with fail
  refine bodyPost_ret (results_sq rfl _ rfl ((((((((HK.out.set_ 0 (.int .i64 0)).set_ 1 (.slice (some ⟨W0.heap.size,0,none⟩) 2 2)).set_ 2 (.int .i64 1)).set_ 3 (.slice (some ⟨W1.heap.size,0,none⟩) 1 1)).set_ 4 (.int .i64 0)).set_ 5 (.slice (some ⟨W2.heap.size,0,none⟩) 1 1)).set_ 6 (.int .i64 0)).set_ 7 (.slice none 0 0))) rfl ?_
  have n0:∀ {m:Nat},0 < m → ∀ ad,some (⟨W0.heap.size,0,none⟩:Addr) = some ad → ad.block ≠ b0:=fun _ ad e => by injection e with e;subst e;show W0.heap.size ≠ b0;omega
  have n1:∀ {m:Nat},0 < m → ∀ ad,some (⟨W1.heap.size,0,none⟩:Addr) = some ad → ad.block ≠ b0:=fun _ ad e => by injection e with e;subst e;show W1.heap.size ≠ b0;omega
  have n2:∀ {m:Nat},0 < m → ∀ ad,some (⟨W2.heap.size,0,none⟩:Addr) = some ad → ad.block ≠ b0:=fun _ ad e => by injection e with e;subst e;show W2.heap.size ≠ b0;omega
  have y1:=((((((((HS1.out.setCell n0 0 (.int .i64 0)).setCell n0 1 (.slice (some ⟨W0.heap.size,0,none⟩) 2 2)).setCell n0 2 (.int .i64 1)).setCell n0 3 (.slice (some ⟨W1.heap.size,0,none⟩) 1 1)).setCell n0 4 (.int .i64 0)).setCell n0 5 (.slice (some ⟨W2.heap.size,0,none⟩) 1 1)).setCell n0 6 (.int .i64 0)).setCell n0 7 (.slice none 0 0))
  have y2:=((((((((HS2.out.setCell n1 0 (.int .i64 0)).setCell n1 1 (.slice (some ⟨W0.heap.size,0,none⟩) 2 2)).setCell n1 2 (.int .i64 1)).setCell n1 3 (.slice (some ⟨W1.heap.size,0,none⟩) 1 1)).setCell n1 4 (.int .i64 0)).setCell n1 5 (.slice (some ⟨W2.heap.size,0,none⟩) 1 1)).setCell n1 6 (.int .i64 0)).setCell n1 7 (.slice none 0 0))
  have y3:=((((((((HS3.out.setCell n2 0 (.int .i64 0)).setCell n2 1 (.slice (some ⟨W0.heap.size,0,none⟩) 2 2)).setCell n2 2 (.int .i64 1)).setCell n2 3 (.slice (some ⟨W1.heap.size,0,none⟩) 1 1)).setCell n2 4 (.int .i64 0)).setCell n2 5 (.slice (some ⟨W2.heap.size,0,none⟩) 1 1)).setCell n2 6 (.int .i64 0)).setCell n2 7 (.slice none 0 0))
  have hw:=((((((((HW.out.setCell (p:=⟨b0,0,none⟩) (Nat.le_of_eq HZ.out) (.int .i64 0)).setCell (p:=⟨b0,1,none⟩) (Nat.le_of_eq HZ.out) (.slice (some ⟨W0.heap.size,0,none⟩) 2 2)).setCell (p:=⟨b0,2,none⟩) (Nat.le_of_eq HZ.out) (.int .i64 1)).setCell (p:=⟨b0,3,none⟩) (Nat.le_of_eq HZ.out) (.slice (some ⟨W1.heap.size,0,none⟩) 1 1)).setCell (p:=⟨b0,4,none⟩) (Nat.le_of_eq HZ.out) (.int .i64 0)).setCell (p:=⟨b0,5,none⟩) (Nat.le_of_eq HZ.out) (.slice (some ⟨W2.heap.size,0,none⟩) 1 1)).setCell (p:=⟨b0,6,none⟩) (Nat.le_of_eq HZ.out) (.int .i64 0)).setCell (p:=⟨b0,7,none⟩) (Nat.le_of_eq HZ.out) (.slice none 0 0))
  unfold GivesB e00 e01 e10 e11
  simp only [if_pos h0,canon_one_tT,canon_tT,canon_one,canon_zero]
  exact ⟨_,_,_,_,_,_,_,_,_,_,_,_,rfl,y1,y2,y3,SL.nil_ _,fun _ ad e => by injection e with e;subst e;show w.heap.size ≤ W1.heap.size;have:=HZ.out;omega,fun _ ad e => (by cases e),hw⟩

set_option maxRecDepth 100000 in
set_option maxHeartbeats 4000000 in
theorem block_neg (x:Int) (w:World) (h0:¬ 0 < x):Calls Tryz.prog 76 #[.int .i64 x] w (GivesB w x):=by
  have hW0:Below w.heap.size w (w.alloc (.cells #[.int .i64 0,.slice none 0 0,.int .i64 0,.slice none 0 0,.int .i64 0,.slice none 0 0,.int .i64 0,.slice none 0 0] 102)):=(Below.refl _ _).alloc (Nat.le_refl _) _
  have HW:=hide hW0
  have HK:=hide (Blk.new w 102 #[.int .i64 0,.slice none 0 0,.int .i64 0,.slice none 0 0,.int .i64 0,.slice none 0 0,.int .i64 0,.slice none 0 0])
  go_enter Tryz.func76,Tryz.ntmps76
  go_upto_region 3 with fail
  obtain ⟨W0,hw0⟩:∃ W,w.alloc (.cells #[.int .i64 0,.slice none 0 0,.int .i64 0,.slice none 0 0,.int .i64 0,.slice none 0 0,.int .i64 0,.slice none 0 0] 102) = W:=⟨_,rfl⟩
  have hz0:w.heap.size < W0.heap.size:=by rw [← hw0];simp
  rw [hw0] at HW HK ⊢
  obtain ⟨b0,hb0⟩:∃ b,w.heap.size = b:=⟨_,rfl⟩
  rw [hb0] at hz0 HK ⊢
  have HZ:=hide hb0
  clear hw0 hb0 hW0
  go_wp2_with fail
  have hl:=SL.lit W0 [1] (by decide) (cs:=#[.int .i64 1]) rfl (m:=1) rfl
  have hb:=(Below.refl W0.heap.size W0).alloc (Nat.le_refl _) (.cells #[.int .i64 1] 3)
  obtain ⟨V1,hV⟩:∃ V,W0.alloc (.cells #[.int .i64 1] 3) = V:=⟨_,rfl⟩
  rw [hV] at hl hb ⊢
  refine (bpoly_any 0 _ _ _ V1).mono ?_
  rintro e W1 ⟨rfl,hc⟩
  have hbc:=hb.trans (hc.mono hb.size)
  have HS1:=hide (hl.below hc)
  replace HW:=hide (HW.out.trans (hbc.mono HW.out.size))
  replace HK:=hide (HK.out.below hbc (by omega))
  have hz1:b0 < W1.heap.size:=by have:=hbc.size;omega
  clear hl hb hc hbc hV
  go_wp2_with fail
  have hl:=SL.lit W1 [1] (by decide) (cs:=#[.int .i64 1]) rfl (m:=1) rfl
  have hb:=(Below.refl W1.heap.size W1).alloc (Nat.le_refl _) (.cells #[.int .i64 1] 3)
  obtain ⟨V2,hV⟩:∃ V,W1.alloc (.cells #[.int .i64 1] 3) = V:=⟨_,rfl⟩
  rw [hV] at hl hb ⊢
  refine (bpoly_any (-1) _ _ _ V2).mono ?_
  rintro e W2 ⟨rfl,hc⟩
  have hbc:=hb.trans (hc.mono hb.size)
  have HS2:=hide (hl.below hc)
  replace HS1:=hide (HS1.out.below hbc)
  replace HW:=hide (HW.out.trans (hbc.mono HW.out.size))
  replace HK:=hide (HK.out.below hbc (by omega))
  have hz2:b0 < W2.heap.size:=by have:=hbc.size;omega
  clear hl hb hc hbc hV
  go_wp2_with fail
  have hl:=SL.lit W2 [-1,1] (by decide) (cs:=#[.int .i64 (-1),.int .i64 1]) rfl (m:=2) rfl
  have hb:=(Below.refl W2.heap.size W2).alloc (Nat.le_refl _) (.cells #[.int .i64 (-1),.int .i64 1] 3)
  obtain ⟨V3,hV⟩:∃ V,W2.alloc (.cells #[.int .i64 (-1),.int .i64 1] 3) = V:=⟨_,rfl⟩
  rw [hV] at hl hb ⊢
  refine (bpoly_any (-1) _ _ _ V3).mono ?_
  rintro e W3 ⟨rfl,hc⟩
  have hbc:=hb.trans (hc.mono hb.size)
  have HS3:=hide (hl.below hc)
  replace HS1:=hide (HS1.out.below hbc)
  replace HS2:=hide (HS2.out.below hbc)
  replace HW:=hide (HW.out.trans (hbc.mono HW.out.size))
  replace HK:=hide (HK.out.below hbc (by omega))
  have hz3:b0 < W3.heap.size:=by have:=hbc.size;omega
  clear hl hb hc hbc hV
  have f0:=HK.out.frozen 0
  have g0:=HK.out.cell 0
  have f1:=HK.out.frozen 1
  have g1:=HK.out.cell 1
  have f2:=HK.out.frozen 2
  have g2:=HK.out.cell 2
  have f3:=HK.out.frozen 3
  have g3:=HK.out.cell 3
  have f4:=HK.out.frozen 4
  have g4:=HK.out.cell 4
  have f5:=HK.out.frozen 5
  have g5:=HK.out.cell 5
  have f6:=HK.out.frozen 6
  have g6:=HK.out.cell 6
  have f7:=HK.out.frozen 7
  have g7:=HK.out.cell 7
  simp at g0 g1 g2 g3 g4 g5 g6 g7
  go_wp2_with fail
  refine bodyPost_ret (results_sq rfl _ rfl ((((((((HK.out.set_ 0 (.int .i64 0)).set_ 1 (.slice none 0 0)).set_ 2 (.int .i64 0)).set_ 3 (.slice (some ⟨W0.heap.size,0,none⟩) 1 1)).set_ 4 (.int .i64 (-1))).set_ 5 (.slice (some ⟨W1.heap.size,0,none⟩) 1 1)).set_ 6 (.int .i64 (-1))).set_ 7 (.slice (some ⟨W2.heap.size,0,none⟩) 2 2))) rfl ?_
  have n0:∀ {m:Nat},0 < m → ∀ ad,some (⟨W0.heap.size,0,none⟩:Addr) = some ad → ad.block ≠ b0:=fun _ ad e => by injection e with e;subst e;show W0.heap.size ≠ b0;omega
  have n1:∀ {m:Nat},0 < m → ∀ ad,some (⟨W1.heap.size,0,none⟩:Addr) = some ad → ad.block ≠ b0:=fun _ ad e => by injection e with e;subst e;show W1.heap.size ≠ b0;omega
  have n2:∀ {m:Nat},0 < m → ∀ ad,some (⟨W2.heap.size,0,none⟩:Addr) = some ad → ad.block ≠ b0:=fun _ ad e => by injection e with e;subst e;show W2.heap.size ≠ b0;omega
  have y1:=((((((((HS1.out.setCell n0 0 (.int .i64 0)).setCell n0 1 (.slice none 0 0)).setCell n0 2 (.int .i64 0)).setCell n0 3 (.slice (some ⟨W0.heap.size,0,none⟩) 1 1)).setCell n0 4 (.int .i64 (-1))).setCell n0 5 (.slice (some ⟨W1.heap.size,0,none⟩) 1 1)).setCell n0 6 (.int .i64 (-1))).setCell n0 7 (.slice (some ⟨W2.heap.size,0,none⟩) 2 2))
  have y2:=((((((((HS2.out.setCell n1 0 (.int .i64 0)).setCell n1 1 (.slice none 0 0)).setCell n1 2 (.int .i64 0)).setCell n1 3 (.slice (some ⟨W0.heap.size,0,none⟩) 1 1)).setCell n1 4 (.int .i64 (-1))).setCell n1 5 (.slice (some ⟨W1.heap.size,0,none⟩) 1 1)).setCell n1 6 (.int .i64 (-1))).setCell n1 7 (.slice (some ⟨W2.heap.size,0,none⟩) 2 2))
  have y3:=((((((((HS3.out.setCell n2 0 (.int .i64 0)).setCell n2 1 (.slice none 0 0)).setCell n2 2 (.int .i64 0)).setCell n2 3 (.slice (some ⟨W0.heap.size,0,none⟩) 1 1)).setCell n2 4 (.int .i64 (-1))).setCell n2 5 (.slice (some ⟨W1.heap.size,0,none⟩) 1 1)).setCell n2 6 (.int .i64 (-1))).setCell n2 7 (.slice (some ⟨W2.heap.size,0,none⟩) 2 2))
  have hw:=((((((((HW.out.setCell (p:=⟨b0,0,none⟩) (Nat.le_of_eq HZ.out) (.int .i64 0)).setCell (p:=⟨b0,1,none⟩) (Nat.le_of_eq HZ.out) (.slice none 0 0)).setCell (p:=⟨b0,2,none⟩) (Nat.le_of_eq HZ.out) (.int .i64 0)).setCell (p:=⟨b0,3,none⟩) (Nat.le_of_eq HZ.out) (.slice (some ⟨W0.heap.size,0,none⟩) 1 1)).setCell (p:=⟨b0,4,none⟩) (Nat.le_of_eq HZ.out) (.int .i64 (-1))).setCell (p:=⟨b0,5,none⟩) (Nat.le_of_eq HZ.out) (.slice (some ⟨W1.heap.size,0,none⟩) 1 1)).setCell (p:=⟨b0,6,none⟩) (Nat.le_of_eq HZ.out) (.int .i64 (-1))).setCell (p:=⟨b0,7,none⟩) (Nat.le_of_eq HZ.out) (.slice (some ⟨W2.heap.size,0,none⟩) 2 2))
  unfold GivesB e00 e01 e10 e11
  simp only [if_neg (show ¬ 0 < x by omega),canon_one_tI,canon_tI,canon_one,canon_zero]
  exact ⟨_,_,_,_,_,_,_,_,_,_,_,_,rfl,SL.nil_ _,y1,y2,y3,fun _ ad e => by injection e with e;subst e;show w.heap.size ≤ W0.heap.size;have:=HZ.out;omega,fun _ ad e => by injection e with e;subst e;show w.heap.size ≤ W2.heap.size;have:=HZ.out;omega,hw⟩

theorem block_any (x:Int) (w:World):Calls Tryz.prog 76 #[.int .i64 x] w (GivesB w x):=by
  by_cases h0:0 < x
  · exact block_pos x w h0
  · exact block_neg x w h0
end Go.Proofs.YtndgffiihbdppaaGreatDoor
namespace Go.Proofs.YtndgffiihbdppaaGreatDoor
set_option linter.unusedVariables false
set_option linter.unusedSimpArgs false
open Go.RowKit

def SameK (K:Nat → Prop) (w w':World):Prop:=∀ b,K b → w'.heap[b]? = w.heap[b]?
theorem SameK.cell {K:Nat → Prop} {w w':World} (h:SameK K w w') {a:Addr} (ha:K a.block):w'.cell? a = w.cell? a:=World.cell?_of_block (w:=w) (h a.block ha)
theorem SameK.below {B:Nat} {w w':World} (h:Below B w w'):SameK (fun b => b < B) w w':=fun b hb => h.block b hb
theorem SameK.grown {w w':World} {row:Option Nat} (h:w.grownBy w' row):SameK (fun b => b < w.heap.size ∧ row ≠ some b) w w':=fun b hb => h.block b hb.1 (fun e => hb.2 e.symm)
theorem SameK.mono {K K':Nat → Prop} {w w':World} (h:SameK K w w') (hk:∀ b,K' b → K b):SameK K' w w':=fun b hb => h b (hk b hb)
theorem cell_lt {w:World} {a:Addr} {v:Value} (h:w.cell? a = some v):a.block < w.heap.size:=by
  rcases Nat.lt_or_ge a.block w.heap.size with h1 | h1
  · exact h1
  · unfold World.cell? at h
    rw [show w.heap[a.block]? = none by simpa using h1] at h
    cases h

abbrev RdI (α:Type):=(Nat → Prop) → World → List Value → α → Prop
structure RdOk {α:Type} (Q:RdI α):Prop where
  keep:∀ {K:Nat → Prop} {w w':World} {us:List Value} {y:α},SameK K w w' → w.heap.size ≤ w'.heap.size → Q K w us y → Q K w' us y
  mono:∀ {K K':Nat → Prop} {w:World} {us:List Value} {y:α},(∀ b,b < w.heap.size → K b → K' b) → Q K w us y → Q K' w us y

structure RdS {α:Type} (Q:RdI α) (sz:Nat) (K:Nat → Prop) (w:World) (A:Option Addr) (n c:Nat) (ys:List α):Prop where
  len:ys.length = n
  small:n ≤ 17592186044416
  nil:A = none → n = 0 ∧ c = 0
  cap:n ≤ c
  mem:0 < n → ∃ ad,A = some ad ∧ ad.block < w.heap.size ∧ K ad.block ∧ ∀ j (hj:j < ys.length),∃ us:List Value,us.length = sz ∧ w.cell? (ad.add (j * sz)) = us[0]? ∧ (∀ i,i < sz → w.cell? ⟨(ad.add (j * sz)).block,(ad.add (j * sz)).off + i,none⟩ = us[i]?) ∧ Q K w us ys[j]
section
variable {α:Type} {Q:RdI α} {sz n c:Nat} {K K':Nat → Prop} {w w':World} {A:Option Addr} {ys:List α}
theorem RdS.keep (hQ:RdOk Q) (h:RdS Q sz K w A n c ys) (hk:SameK K w w') (hs:w.heap.size ≤ w'.heap.size):RdS Q sz K w' A n c ys:=
  ⟨h.len,h.small,h.nil,h.cap,fun hn => by
    obtain ⟨ad,e,hl,hb,hc⟩:=h.mem hn
    refine ⟨ad,e,Nat.lt_of_lt_of_le hl hs,hb,fun j hj => ?_⟩
    obtain ⟨us,h1,h0,h2,h3⟩:=hc j hj
    exact ⟨us,h1,(hk.cell (by rw [block_of_add];exact hb)).trans h0,fun i hi => (hk.cell (by show K (ad.add (j * sz)).block;rw [block_of_add];exact hb)).trans (h2 i hi),hQ.keep hk hs h3⟩⟩
theorem RdS.mono (hQ:RdOk Q) (h:RdS Q sz K w A n c ys) (hk:∀ b,b < w.heap.size → K b → K' b):RdS Q sz K' w A n c ys:=
  ⟨h.len,h.small,h.nil,h.cap,fun hn => by
    obtain ⟨ad,e,hl,hb,hc⟩:=h.mem hn
    refine ⟨ad,e,hl,hk _ hl hb,fun j hj => ?_⟩
    obtain ⟨us,h1,h0,h2,h3⟩:=hc j hj
    exact ⟨us,h1,h0,h2,hQ.mono hk h3⟩⟩
end
def QS {α:Type} (Q:RdI α) (sz:Nat):RdI (List α):=fun K w us ys => ∃ B m d,us = [.slice B m d] ∧ RdS Q sz K w B m d ys
abbrev Rd {α:Type} (Q:RdI α) (sz:Nat) (w:World) (A:Option Addr) (n c:Nat) (ys:List α):Prop:=RdS Q sz (fun b => b < w.heap.size) w A n c ys
theorem Rd.below {α:Type} {Q:RdI α} {sz n c:Nat} {w w':World} {A:Option Addr} {ys:List α} (hQ:RdOk Q) (h:Rd Q sz w A n c ys) (hb:Below w.heap.size w w'):Rd Q sz w' A n c ys:=
  (h.keep hQ (SameK.below hb) hb.size).mono hQ fun b _ hl => Nat.lt_of_lt_of_le hl hb.size

structure SLK (K:Nat → Prop) (w:World) (A:Option Addr) (n c:Nat) (xs:List Int):Prop where
  sl:SL w A n c xs
  inK:0 < n → ∀ ad,A = some ad → K ad.block
theorem SLK.keep {K:Nat → Prop} {w w':World} {A:Option Addr} {n c:Nat} {xs:List Int} (h:SLK K w A n c xs) (hk:SameK K w w') (hs:w.heap.size ≤ w'.heap.size):SLK K w' A n c xs:=
  ⟨⟨⟨h.sl.il.len,h.sl.il.small,fun hn => by
    obtain ⟨ad,e,hl,hc⟩:=h.sl.il.mem hn
    refine ⟨ad,e,Nat.lt_of_lt_of_le hl hs,fun j hj => ?_⟩
    rw [← hc j hj]
    exact hk.cell (by rw [block_of_add];exact h.inK hn ad e)⟩,h.sl.nil,h.sl.cap⟩,h.inK⟩
theorem SLK.mono {K K':Nat → Prop} {w:World} {A:Option Addr} {n c:Nat} {xs:List Int} (h:SLK K w A n c xs) (hk:∀ b,b < w.heap.size → K b → K' b):SLK K' w A n c xs:=
  ⟨h.sl,fun hn ad e => hk _ (by
    obtain ⟨ad',e',hl,_⟩:=h.sl.il.mem hn
    rw [e] at e';injection e' with e';rw [e'];exact hl) (h.inK hn ad e)⟩
theorem SL.k {w:World} {A:Option Addr} {n c:Nat} {xs:List Int} (h:SL w A n c xs):SLK (fun b => b < w.heap.size) w A n c xs:=⟨h,fun hn ad e => h.inside hn ad e⟩
section
variable {α:Type} {Q:RdI α} {n c k:Nat} {K:Nat → Prop} {w:World} {A:Option Addr} {ys:List α}
theorem RdS.inK (h:RdS Q n K w A c k ys):0 < c → ∀ ad,A = some ad → K ad.block ∧ ad.block < w.heap.size:=fun hn ad e => by
  obtain ⟨ad',e',hl,hb,_⟩:=h.mem hn
  rw [e] at e';injection e' with e';subst e';exact ⟨hb,hl⟩
end

/-! ### built by the call -/
structure OwnG (e:TypeId) (sz:Nat) (w:World) (base:Nat) (A:Option Addr) (n c:Nat) (vs:List Value):Prop where
  own:w.ownsRow base e sz (.slice A n c) n vs
  small:n ≤ 1000000
section
variable {e:TypeId} {sz base n c:Nat} {w w':World} {A:Option Addr} {vs:List Value}
theorem OwnG.nil_ (e:TypeId) (sz:Nat) (w:World) (base:Nat):OwnG e sz w base none 0 0 []:=⟨World.ownsRow_nil _ _ _ _,by omega⟩
theorem OwnG.len (h:OwnG e sz w base A n c vs):vs.length = n * sz:=h.own.1
theorem OwnG.lt (h:OwnG e sz w base A n c vs):∀ k,(Value.slice A n c).ownBlock = some k → base ≤ k ∧ k < w.heap.size:=h.own.lt
theorem OwnG.keep {K:Nat → Prop} (h:OwnG e sz w base A n c vs) (hk:SameK K w w') (hK:∀ k,(Value.slice A n c).ownBlock = some k → K k):OwnG e sz w' base A n c vs:=by
  refine ⟨⟨h.own.1,?_⟩,h.small⟩
  rcases h.own.2 with h2 | ⟨g,cap,cur,hv,hg,hh,r⟩
  · exact .inl h2
  · exact .inr ⟨g,cap,cur,hv,hg,(hk g (hK g (by rw [hv];rfl))).trans hh,r⟩
theorem OwnG.below (h:OwnG e sz w base A n c vs) (hb:Below w.heap.size w w'):OwnG e sz w' base A n c vs:=h.keep (SameK.below hb) fun k hk => (h.lt k hk).2
theorem OwnG.mono {b':Nat} (h:OwnG e sz w base A n c vs) (hb:b' ≤ base):OwnG e sz w b' A n c vs:=by
  refine ⟨⟨h.own.1,?_⟩,h.small⟩
  rcases h.own.2 with h2 | ⟨g,cap,cur,hv,hg,r⟩
  · exact .inl h2
  · exact .inr ⟨g,cap,cur,hv,by omega,r⟩
theorem OwnG.form (h:OwnG e sz w base A n c vs) (hn:0 < n):∃ g,A = some ⟨g,0,none⟩ ∧ base ≤ g ∧ g < w.heap.size:=by
  rcases h.own.2 with ⟨_,h0⟩ | ⟨g,cap,cur,hv,hg,hh,_⟩
  · omega
  · simp only [Value.slice.injEq] at hv
    exact ⟨g,hv.1,hg,Blk.lt (w:=w) (t:=e) (cs:=cur) hh⟩
theorem OwnG.cells (h:OwnG e sz w base A n c vs):∀ k,(Value.slice A n c).ownBlock = some k → ∃ cur:Array Value,base ≤ k ∧ w.heap[k]? = some (.cells cur e (0,0)):=by
  intro k hk
  rcases h.own.2 with ⟨hv,_⟩ | ⟨g,cap,cur,hv,hb,hh,_⟩
  · rw [hv] at hk;cases hk
  · rw [hv] at hk
    injection hk with hk
    subst hk
    exact ⟨cur,hb,hh⟩
theorem OwnG.nilcap (h:OwnG e sz w base A n c vs):(A = none → n = 0 ∧ c = 0) ∧ n ≤ c:=by
  rcases h.own.2 with ⟨hv,h0⟩ | ⟨g,cap,cur,hv,_,_,hnc,_⟩
  · simp only [Value.slice.injEq] at hv
    exact ⟨fun _ => ⟨hv.2.1,hv.2.2⟩,by omega⟩
  · simp only [Value.slice.injEq,true_and] at hv
    exact ⟨fun e => (by rw [e] at hv;exact absurd hv.1 (by simp)),by omega⟩
theorem OwnG.cellAt {g:Nat} (h:OwnG e sz w base (some ⟨g,0,none⟩) n c vs) {j:Nat} (hj:j < n * sz):w.cell? ⟨g,j,none⟩ = vs[j]?:=h.own.cellAt j hj
theorem OwnG.frozen {g:Nat} (h:OwnG e sz w base (some ⟨g,0,none⟩) n c vs) (j:Nat):w.frozen? ⟨g,j,none⟩ = false:=h.own.frozenAt j
theorem OwnG.set_ {g:Nat} (h:OwnG e sz w base (some ⟨g,0,none⟩) n c vs) (j:Nat) (u:Value):OwnG e sz (w.setCell ⟨g,j,none⟩ u) base (some ⟨g,0,none⟩) n c (vs.set j u):=⟨(h.own.stored j u).1,h.small⟩
end
structure AppG (e:TypeId) (sz:Nat) (w:World) (base:Nat) (A:Option Addr) (n c:Nat) (vs:List Value) (A':Option Addr) (c':Nat) (w':World):Prop where
  own:OwnG e sz w' base A' n c' vs
  grown:w.grownBy w' (Value.slice A n c).ownBlock
  lies:(Value.slice A' n c').ownBlock = (Value.slice A n c).ownBlock ∨ (Value.slice A' n c').ownBlock = some w.heap.size
structure Bld {α:Type} (L:Nat → Prop) (Q:RdI α) (e:TypeId) (sz:Nat) (w0 w:World) (A:Option Addr) (n c:Nat) (vs:List Value) (ys:List α):Prop where
  own:OwnG e sz w w0.heap.size A n c vs
  len:ys.length = n
  row:∀ j (hj:j < ys.length),Q (fun b => L b ∧ b < w.heap.size ∧ (Value.slice A n c).ownBlock ≠ some b) w ((vs.drop (j * sz)).take sz) ys[j]
  below:Below w0.heap.size w0 w
section
variable {α:Type} {L:Nat → Prop} {Q:RdI α} {e:TypeId} {sz n c:Nat} {w0 w w':World} {A:Option Addr} {vs:List Value} {ys:List α}
theorem Bld.to (hQ:RdOk Q) (h:Bld L Q e sz w0 w A n c vs ys) (hb:Below w.heap.size w w'):Bld L Q e sz w0 w' A n c vs ys:=
  ⟨h.own.below hb,h.len,fun j hj => hQ.mono (fun b _ hb2 => ⟨hb2.1,Nat.lt_of_lt_of_le hb2.2.1 hb.size,hb2.2.2⟩) (hQ.keep ((SameK.below hb).mono fun b hb2 => hb2.2.1) hb.size (h.row j hj)),h.below.trans (hb.mono h.below.size)⟩
theorem Bld.add (hQ:RdOk Q) {A9:Option Addr} {c9:Nat} {w9:World} {us:List Value} {y:α} (h:Bld L Q e sz w0 w A n c vs ys) (hl:us.length = sz)
    (hy:Q (fun b => L b ∧ b < w.heap.size ∧ (Value.slice A n c).ownBlock ≠ some b) w us y) (happ:AppG e sz w w0.heap.size A (n + 1) c (vs ++ us) A9 c9 w9) :
    Bld L Q e sz w0 w9 A9 (n + 1) c9 (vs ++ us) (ys ++ [y]):=by
  have hown:(Value.slice A (n + 1) c).ownBlock = (Value.slice A n c).ownBlock:=ownBlock_len A (n + 1) n c c
  have hsame:SameK (fun b => L b ∧ b < w.heap.size ∧ (Value.slice A n c).ownBlock ≠ some b) w w9:=by
    have:=SameK.grown happ.grown
    rw [hown] at this
    exact this.mono fun b hb => hb.2
  have hup:∀ b,b < w9.heap.size → (L b ∧ b < w.heap.size ∧ (Value.slice A n c).ownBlock ≠ some b) → L b ∧ b < w9.heap.size ∧ (Value.slice A9 (n + 1) c9).ownBlock ≠ some b:=fun b hb h2 => ⟨h2.1,hb,by
    rcases happ.lies with h3 | h3
    · rw [h3,hown];exact h2.2.2
    · rw [h3];intro e;injection e with e;omega⟩
  have hvl:=h.own.len
  refine ⟨happ.own,by simp [h.len],fun j hj => ?_,h.below.grown happ.grown h.below.size (fun g hg => (h.own.lt g (by rw [← hown];exact hg)).1)⟩
  have hj2:j < n + 1:=by simp [h.len] at hj;exact hj
  by_cases hjn:j < n
  · have hj3:j < ys.length:=by rw [h.len];exact hjn
    have hm:(j + 1) * sz ≤ n * sz:=Nat.mul_le_mul_right _ hjn
    rw [Nat.add_mul,Nat.one_mul] at hm
    have e1:((vs ++ us).drop (j * sz)).take sz = (vs.drop (j * sz)).take sz:=by
      rw [List.drop_append_of_le_length (by omega),List.take_append_of_le_length (by rw [List.length_drop];omega)]
    have e2:(ys ++ [y])[j] = ys[j]:=List.getElem_append_left hj3
    rw [e1,e2]
    exact hQ.mono hup (hQ.keep hsame happ.grown.size (h.row j hj3))
  · have hjn2:j = n:=by omega
    subst hjn2
    have e1:((vs ++ us).drop (j * sz)).take sz = us:=by
      rw [List.drop_append,show vs.drop (j * sz) = [] from List.drop_eq_nil_of_le (by omega),hvl,Nat.sub_self,List.drop_zero,List.nil_append,List.take_of_length_le (by omega)]
    have e2:(ys ++ [y])[j] = y:=by rw [List.getElem_append_right (by rw [h.len];exact Nat.le_refl _)];simp
    rw [e1,e2]
    exact hQ.mono hup (hQ.keep hsame happ.grown.size hy)
theorem Bld.rdK (hQ:RdOk Q) (hs0:0 < sz) (hL:∀ b,w0.heap.size ≤ b → L b) (h:Bld L Q e sz w0 w A n c vs ys):RdS Q sz (fun b => L b ∧ b < w.heap.size) w A n c ys:=by
  have hvl:=h.own.len
  refine ⟨h.len,by have:=h.own.small;omega,h.own.nilcap.1,h.own.nilcap.2,fun hn => ?_⟩
  obtain ⟨g,rfl,hgb,hl⟩:=h.own.form hn
  refine ⟨_,rfl,hl,⟨hL _ hgb,hl⟩,fun j hj => ⟨(vs.drop (j * sz)).take sz,?_,?_,?_,hQ.mono (fun b hb h2 => ⟨h2.1,hb⟩) (h.row j hj)⟩⟩
  · have hj2:=h.len
    have hm:(j + 1) * sz ≤ n * sz:=Nat.mul_le_mul_right _ (by omega)
    rw [Nat.add_mul,Nat.one_mul] at hm
    rw [List.length_take,List.length_drop];omega
  · have hj2:=h.len
    have hm:(j + 1) * sz ≤ n * sz:=Nat.mul_le_mul_right _ (by omega)
    rw [Nat.add_mul,Nat.one_mul] at hm
    rw [show (⟨g,0,none⟩:Addr).add (j * sz) = ⟨g,j * sz,none⟩ by unfold Addr.add;split <;> simp_all,h.own.cellAt (by omega)]
    rw [List.getElem?_take,if_pos hs0,List.getElem?_drop,Nat.add_zero]
  · intro i hi
    have hj2:=h.len
    have hm:(j + 1) * sz ≤ n * sz:=Nat.mul_le_mul_right _ (by omega)
    rw [Nat.add_mul,Nat.one_mul] at hm
    rw [show (⟨g,0,none⟩:Addr).add (j * sz) = ⟨g,j * sz,none⟩ by unfold Addr.add;split <;> simp_all]
    show w.cell? ⟨g,j * sz + i,none⟩ = _
    rw [h.own.cellAt (by omega),List.getElem?_take,if_pos hi,List.getElem?_drop]
theorem Bld.rd (hQ:RdOk Q) (hs0:0 < sz) (hL:∀ b,w0.heap.size ≤ b → L b) (h:Bld L Q e sz w0 w A n c vs ys):Rd Q sz w A n c ys:=(h.rdK hQ hs0 hL).mono hQ fun b hb _ => hb
theorem Bld.far (h:Bld L Q e sz w0 w A n c vs ys):0 < n → ∀ ad,A = some ad → w0.heap.size ≤ ad.block:=fun hn ad e => by
  obtain ⟨g,e2,hg,_⟩:=h.own.form hn
  rw [e] at e2;injection e2 with e2;rw [e2];exact hg
end
end Go.Proofs.YtndgffiihbdppaaGreatDoor
