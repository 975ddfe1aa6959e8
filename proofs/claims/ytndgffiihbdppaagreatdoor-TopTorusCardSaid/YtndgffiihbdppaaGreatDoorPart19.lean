/- Several texts in one. -/
import Derived.Test.YtndgffiihbdppaaGreatDoorPart14
import Derived.Test.YtndgffiihbdppaaGreatDoorPart8
import Derived.Test.YtndgffiihbdppaaGreatDoorPart18
import Derived.Test.YtndgffiihbdppaaGreatDoorPart7
import Derived.Test.YtndgffiihbdppaaGreatDoorPart3
import Derived.Test.YtndgffiihbdppaaGreatDoorPart10
import Derived.Test.YtndgffiihbdppaaGreatDoorPart12
import Derived.Test.YtndgffiihbdppaaGreatDoorPart2
import Derived.Test.YtndgffiihbdppaaGreatDoorPart1
import Derived.Test.YtndgffiihbdppaaGreatDoorPart4
import Derived.Test.YtndgffiihbdppaaGreatDoorBase1
import Derived.Test.YtndgffiihbdppaaGreatDoorPart13
namespace Go.Proofs.YtndgffiihbdppaaGreatDoor
set_option linter.unusedVariables false
set_option linter.unusedSimpArgs false
open Go.RowKit

def GivesId (w:World) (n:Nat) (e:Ending) (w':World):Prop:=
  ∃ go gr,e = .returned (.slice (some ⟨go,0,none⟩) n n) ∧ MatB w' w.heap.size go n gr n oneM ∧ Below w.heap.size w w'
theorem MatB.start {w:World} {base go n:Nat} {X:Mtx LP} {cs:Array Value} (h:Blk w go 67 cs) (hb:base ≤ go):MatB w base go n (fun _ => 0) 0 X:=
  ⟨⟨_,h⟩,fun i hi => absurd hi (by omega),fun i hi => absurd hi (by omega),fun i hi => absurd hi (by omega),fun i j hi => absurd hi (by omega),hb,fun i hi => absurd hi (by omega)⟩
theorem MatB.more {w w':World} {base go n:Nat} {gr:Nat → Nat} {k:Nat} {X:Mtx LP} {v:Value} (h:MatB w base go n gr k X) {g:Nat} (hb:Below w.heap.size w w') (hg:w.heap.size ≤ g) (hbase:base ≤ w.heap.size) (hc:w.cell? ⟨go,k,none⟩ = some v) (hrow:∀ K,RowB w' g n K (X k)) :
    MatB (w'.setCell ⟨go,k,none⟩ (.slice (some ⟨g,0,none⟩) n n)) base go n (fun i => if i = k then g else gr i) (k + 1) X:=by
  have hlt:=h.lt
  have hc':w'.cell? ⟨go,k,none⟩ = some v:=(hb.cell (p:=⟨go,k,none⟩) hlt).trans hc
  have hne:∀ i,i < k → (if i = k then g else gr i) = gr i:=fun i hi => if_neg (by omega)
  have hch:w'.grownBy (w'.setCell ⟨go,k,none⟩ (.slice (some ⟨g,0,none⟩) n n)) (some go):=chg_set
  have hgl:∀ i,i < k → gr i < w.heap.size:=fun i hi => (h.row i hi).lt
  refine ⟨?_,fun i hi => ?_,fun i hi => ?_,fun i hi => ?_,fun i j hi hj e => ?_,h.base_le.1,fun i hi => ?_⟩
  · obtain ⟨cs,hcs⟩:=(h.below hb).blk
    exact ⟨_,hcs.set_ k _⟩
  · by_cases e:i = k
    · subst e
      show _ = some (Value.slice (some ⟨if i = i then g else gr i,0,none⟩) n n)
      rw [if_pos rfl]
      exact World.cell?_setCell_same w' _ _ hc'
    · show _ = some (Value.slice (some ⟨if i = k then g else gr i,0,none⟩) n n)
      rw [if_neg e,World.cell?_setCell_other w' _ _ _ (by intro h2;simp only [Addr.mk.injEq] at h2;omega)]
      exact (h.below hb).out i (by omega)
  · show RowB _ (if i = k then g else gr i) n _ (X i)
    have hF:∀ b,FreB go (fun i => if i = k then g else gr i) (k + 1) b → b ≠ go:=fun b hb => hb.1
    by_cases e:i = k
    · subst e
      rw [if_pos rfl]
      exact (hrow _).grown hch (by omega) hF
    · rw [if_neg e]
      have h1:=(h.row i (by omega)).mono (K':=FreB go (fun i => if i = k then g else gr i) (k + 1)) fun b hbl hf => ⟨hf.1,fun j hj => by
        show (if j = k then g else gr j) ≠ b
        split
        · omega
        · exact hf.2 j (by omega)⟩
      exact (h1.below hb).grown hch (fun e2 => h.ne i (by omega) e2.symm) hF
  · show (if i = k then g else gr i) ≠ go
    split
    · omega
    · exact h.ne i (by omega)
  · replace e:(if i = k then g else gr i) = (if j = k then g else gr j):=e
    by_cases e1:i = k
    · by_cases e2:j = k
      · omega
      · rw [if_pos e1,if_neg e2] at e
        have:=hgl j (by omega)
        omega
    · by_cases e2:j = k
      · rw [if_neg e1,if_pos e2] at e
        have:=hgl i (by omega)
        omega
      · rw [if_neg e1,if_neg e2] at e
        exact h.inj i j (by omega) (by omega) e
  · show base ≤ (if i = k then g else gr i)
    split
    · omega
    · exact h.base_le.2 i (by omega)
def uM (k:Nat):Mtx LP:=fun i c => if i < k then oneM i c else 0

set_option maxRecDepth 100000 in
set_option maxHeartbeats 8000000 in
theorem identity_any (n:Nat) (w:World) (hn:n ≤ 6):Calls Tryz.prog 61 #[.int .i64 n] w (GivesId w n):=by
  obtain ⟨i0,hi0,hz0,hz1,hz2⟩:=info_parts prows_info
  obtain ⟨i1,hi1,hy0,hy1,hy2⟩:=info_parts polys_info
  have HI:=hide hi1
  have HY0:=hide hy0
  have HY1:=hide hy1
  have HY2:=hide hy2
  clear hi1 hy0 hy1 hy2
  go_enter Tryz.func61,Tryz.ntmps61
  go_wp2_with (at_make;refine wpList_make_full _ rfl _ _ 45 rfl w.heap.size 67 i0 (.slice none 0 0) 1 Tryz.underlying45 hi0 hz0 hz1 .i64 .i64 _ _ n rfl rfl rfl rfl (by rw [hz2];omega) (by unfold maxLen;omega) (Nat.le_refl _) ?_;intro w2 hown2 hg2)
  have hB2:Below w.heap.size w w2:=(Below.refl _ _).grown hg2 (Nat.le_refl _) (by intro k hk;cases hk)
  have ho2:OwnG 67 1 w2 w.heap.size (some ⟨w.heap.size,0,none⟩) n n (madeCells #[.slice none 0 0] (n * 1)).toList:=⟨hown2,by omega⟩
  obtain ⟨cs,_,hcs⟩:=ho2.cells _ rfl
  have HM2:Hid (MatB w2 w.heap.size w.heap.size n (fun _ => 0) 0 (uM 0)):=hide (MatB.start hcs (Nat.le_refl _))
  have HC2:Hid (∀ i,i < n → ∃ v,w2.cell? ⟨w.heap.size,i,none⟩ = some v):=hide (fun i hi => by
    have h:=ho2.cellAt (j:=i) (by omega)
    rw [h,Array.getElem?_toList]
    exact ⟨_,Array.getElem?_eq_getElem (by unfold madeCells;simp;omega)⟩)
  have HB2:=hide hB2
  clear hown2 hg2 hB2 ho2 hcs
  go_loopw [9] (fun iv wr => ∃ (k:Nat) (gr:Nat → Nat),iv = .int .i64 k ∧ k ≤ n ∧ Hid (MatB wr w.heap.size w.heap.size n gr k (uM k)) ∧ Hid (∀ i,i < n → ∃ v,wr.cell? ⟨w.heap.size,i,none⟩ = some v) ∧ Hid (Below w.heap.size w wr)) (fun iv _ => n - (intOf iv).toNat)
  case atStart => exact ⟨0,_,rfl,Nat.zero_le _,HM2,HC2,HB2⟩
  case round =>
    clear HM2 HB2 HC2
    obtain ⟨k,gr,rfl,hk,HM,HC,HB⟩:=hrel
    by_cases hlt:k < n
    · obtain ⟨v,hv⟩:=HC.out k hlt
      have hfr:∃ cs,Blk wr w.heap.size 67 cs:=HM.out.blk
      obtain ⟨cs9,hcs9⟩:=hfr
      have HK9:=hide hcs9
      have hbw:=HB.out.size
      have HV:=hide hv
      clear hcs9 hv
      go_upto_region 6 with (at_make;refine wpList_make_full _ rfl _ _ 67 rfl wr.heap.size 26 i1 (.agg #[.int .i64 0,.slice none 0 0]) 2 Tryz.underlying67 HI.out HY0.out HY1.out .i64 .i64 _ _ n rfl rfl rfl rfl (by rw [HY2.out];omega) (by unfold maxLen;omega) (Nat.le_refl _) ?_;intro w3 hown3 hg3;have hb3:Below wr.heap.size wr w3:=(Below.refl _ _).grown hg3 (Nat.le_refl _) (by intro k hk;cases hk);have hv3:=(hb3.cell (p:=⟨w.heap.size,k,none⟩) HK9.out.lt).trans HV.out;have hf3:=(HK9.out.below hb3 HK9.out.lt).frozen k)
      have hz3:=RowB.zero (base:=wr.heap.size) (g:=wr.heap.size) (n:=n) (w:=w3) (K:=fun _ => True) (by
        have h:=hown3
        rw [show (Value.agg #[Value.int IntKind.i64 0,Value.slice none 0 0]).cells = #[.int .i64 0,.slice none 0 0] from rfl] at h
        exact h) (by omega)
      have hM4:=HM.out.more (g:=wr.heap.size) (X:=uM k) hb3 (Nat.le_refl _) hbw HV.out (fun K => ((RowB.zero (base:=wr.heap.size) (g:=wr.heap.size) (n:=n) (w:=w3) (K:=K) (by
        have h:=hown3
        rw [show (Value.agg #[Value.int IntKind.i64 0,Value.slice none 0 0]).cells = #[.int .i64 0,.slice none 0 0] from rfl] at h
        exact h) (by omega)).congr (Y:=uM k k) fun j _ => (if_neg (Nat.lt_irrefl k)).symm))
      have hC4:∀ i,i < n → ∃ v,(w3.setCell ⟨w.heap.size,k,none⟩ (.slice (some ⟨wr.heap.size,0,none⟩) n n)).cell? ⟨w.heap.size,i,none⟩ = some v:=fun i hi => by
        by_cases e:i = k
        · subst e
          exact ⟨_,World.cell?_setCell_same w3 _ _ hv3⟩
        · rw [World.cell?_setCell_other w3 _ _ _ (by intro h2;simp only [Addr.mk.injEq] at h2;omega)]
          obtain ⟨v',hv'⟩:=HC.out i hi
          exact ⟨v',(hb3.cell (p:=⟨w.heap.size,i,none⟩) HK9.out.lt).trans hv'⟩
      have hb4:=(HB.out.trans (hb3.mono hbw)).setCell (p:=⟨w.heap.size,k,none⟩) (Nat.le_refl _) (.slice (some ⟨wr.heap.size,0,none⟩) n n)
      have hgne:wr.heap.size ≠ w.heap.size:=by have:=HK9.out.lt;omega
      obtain ⟨g,hg⟩:∃ g,wr.heap.size = g:=⟨_,rfl⟩
      obtain ⟨W4,hW4⟩:∃ W,w3.setCell ⟨w.heap.size,k,none⟩ (.slice (some ⟨wr.heap.size,0,none⟩) n n) = W:=⟨_,rfl⟩
      rw [hW4] at hM4 hC4 hb4 ⊢
      rw [hg] at hM4 hgne ⊢
      obtain ⟨gr4,hgr4⟩:∃ f:Nat → Nat,f = fun i => if i = k then g else gr i:=⟨_,rfl⟩
      have HGK:Hid (gr4 k = g):=hide (by rw [hgr4];exact if_pos rfl)
      rw [← hgr4] at hM4
      have HM4:=hide hM4
      have HC4:=hide hC4
      have HB4:=hide hb4
      have hoc:=hM4.out k (by omega)
      rw [HGK.out] at hoc
      have HOC:=hide hoc
      have hgo:w.heap.size < W4.heap.size:=hM4.lt
      have hrw:=hM4.row k (by omega)
      rw [HGK.out] at hrw
      have hgl:g < W4.heap.size:=hrw.lt
      have HRW:=hide hrw
      clear hown3 hg3 hb3 hv3 hf3 hM4 hC4 hb4 hg hW4 hgr4 hoc hrw HM HC HB HV HK9 hbw hz3 hgne
      obtain ⟨i2,hi2,hx0,hx1,hx2⟩:=info_parts int_info
      have HI2:=hide hi2
      have HX0:=hide hx0
      have HX1:=hide hx1
      clear hi2 hx0 hx1 hx2
      refine wp_region_T (S:=fun x => Below W4.heap.size W4 x) 8 (by kernel_rfl) (Below.refl _ _).drew (fun hS => ?_)
      refine wpT_tk 0 (v:=.slice (some ⟨w.heap.size,0,none⟩) n n) rfl (by kernel_rfl) (by kernel_rfl) (by kernel_rfl) (by kernel_rfl) (yi rfl fun x hx => gives_move (.inl rfl) rfl) hS ?_
      go_frame
      refine wpT_tk 1 (v:=.int .i64 k) rfl (by kernel_rfl) (by kernel_rfl) (by kernel_rfl) (by kernel_rfl) (yi rfl fun x hx => gives_move (.inl rfl) rfl) hS ?_
      go_frame
      refine wpT_tk 2 (v:=.pointer (some ⟨w.heap.size,k * 1,none⟩)) rfl (by kernel_rfl) (by kernel_rfl) (by kernel_rfl) (by kernel_rfl) (yi rfl fun x hx => gives_indexB rfl Tryz.underlying45 (fun w => by kernel_rfl) rfl rfl hlt) hS ?_
      go_frame
      rw [Nat.mul_one]
      refine wpT_tk 3 (v:=.slice (some ⟨g,0,none⟩) n n) rfl (by kernel_rfl) (by kernel_rfl) (by kernel_rfl) (by kernel_rfl) (yi rfl fun x hx => gives_load1 rfl (by kernel_rfl) rfl ((hx.cell (p:=⟨w.heap.size,k,none⟩) hgo).trans HOC.out)) hS ?_
      go_frame
      refine wpT_tk 4 (v:=.int .i64 k) rfl (by kernel_rfl) (by kernel_rfl) (by kernel_rfl) (by kernel_rfl) (yi rfl fun x hx => gives_move (.inl rfl) rfl) hS ?_
      go_frame
      refine wpT_1 5 rfl (by kernel_rfl) ?_
      refine wp_lit_int rfl Tryz.underlying23 i2 HI2.out HX0.out HX1.out (v:=1) rfl ?_
      have hS5:Below W4.heap.size W4 (W4.drew.alloc (.cells #[.int .i64 1] 3)):=hS.alloc (Nat.le_refl _) _
      have hl5:=SL.lit W4.drew [1] (by decide) (cs:=#[.int .i64 1]) rfl (m:=1) rfl
      refine ⟨fun _ => hS5,?_⟩
      go_frame
      refine wpT_1 6 rfl (by kernel_rfl) ?_
      refine wp_call [.int .i64 0,.slice (some ⟨W4.drew.heap.size,0,none⟩) 1 1] rfl rfl eBpoly rfl ((bpoly_any 0 _ 1 1 (W4.drew.alloc (.cells #[.int .i64 1] 3))).mono ?_)
      rintro e w6 ⟨rfl,hb6⟩
      have hS6:Below W4.heap.size W4 w6:=hS5.trans (hb6.mono hS5.size)
      refine ⟨_,rfl,fun _ => hS6,?_⟩
      go_frame
      refine wpT_tk 7 (v:=.pointer (some ⟨g,k * 2,none⟩)) rfl (by kernel_rfl) (by kernel_rfl) (by kernel_rfl) (by kernel_rfl) (yi rfl fun x hx => gives_indexB rfl Tryz.underlying67 (fun w => by kernel_rfl) rfl rfl hlt) hS6 ?_
      go_frame
      refine wpT_1 8 rfl (by kernel_rfl) ?_
      have hrow6:=HRW.out.below hS6
      obtain ⟨_,_,_,q0,q1,_⟩:=hrow6.at_ k hlt
      have f0:=hrow6.frozen (k * 2)
      have f1:=hrow6.frozen (k * 2 + 1)
      refine wp_store_mid _ _ _ rfl g (k * 2) #[.int .i64 0,.slice (some ⟨W4.drew.heap.size,0,none⟩) 1 1] rfl rfl (fun j hj => ?_) (by kernel_rfl) (by kernel_rfl) ?_
      · replace hj:j < 2:=hj
        match j,hj with
        | 0,_ => exact ⟨by rw [Nat.add_zero,q0];rfl,f0⟩
        | 1,_ => exact ⟨by rw [q1];rfl,f1⟩
      refine ⟨fun h => absurd rfl h,?_⟩
      go_frame
      refine wpT_done (by kernel_rfl) (noPanic_mk ?_) _
      have HM6:=HM4.out.below hS6
      have hl6:SL w6 (some ⟨W4.heap.size,0,none⟩) 1 1 (LP.canon 1).2:=by rw [canon_one];exact hl5.below hb6
      have hfr:=HM4.out.fresh
      have hset:=hrow6.set_ (k:=k) (x:=1) (fun h => h.2 k (Nat.lt_succ_self k) HGK.out) hlt (SLK.mk hl6 (fun _ ad e => by injection e with e;subst e;exact hfr _ (Nat.le_refl _)))
      rw [canon_one] at hset
      have hchg:w6.grownBy ((w6.setCell ⟨g,k * 2,none⟩ (.int .i64 0)).setCell ⟨g,k * 2 + 1,none⟩ (.slice (some ⟨W4.heap.size,0,none⟩) 1 1)) (some (gr4 k)):=by rw [HGK.out];exact chg_trans chg_set chg_set
      have hM7:=HM6.chg (r:=k) (Y:=uM (k + 1)) (Nat.lt_succ_self k) hchg (by
        rw [HGK.out]
        refine hset.congr fun j hj => ?_
        show (if j = k then (1:LP) else uM k k j) = uM (k + 1) k j
        unfold uM
        rw [if_neg (Nat.lt_irrefl k),if_pos (Nat.lt_succ_self k)]
        unfold oneM
        by_cases e:j = k
        · rw [if_pos e,if_pos e.symm]
        · rw [if_neg e,if_neg (fun h => e h.symm)]) (fun i hi hne c hc => by
        unfold uM
        rw [if_pos (by omega),if_pos (by omega)])
      have HM7:=hide hM7
      have HB7:=hide (((HB4.out.trans (hS6.mono HB4.out.size)).setCell (p:=⟨g,k * 2,none⟩) (HM4.out.base_le.2 k (Nat.lt_succ_self k) |> fun h => by rw [HGK.out] at h;exact h) (.int .i64 0)).setCell (p:=⟨g,k * 2 + 1,none⟩) (HM4.out.base_le.2 k (Nat.lt_succ_self k) |> fun h => by rw [HGK.out] at h;exact h) (.slice (some ⟨W4.heap.size,0,none⟩) 1 1))
      have HC7:Hid (∀ i,i < n → ∃ v,((w6.setCell ⟨g,k * 2,none⟩ (.int .i64 0)).setCell ⟨g,k * 2 + 1,none⟩ (.slice (some ⟨W4.heap.size,0,none⟩) 1 1)).cell? ⟨w.heap.size,i,none⟩ = some v):=hide (fun i hi => by
        obtain ⟨v',hv'⟩:=HC4.out i hi
        refine ⟨v',?_⟩
        have hne:=HM4.out.ne k (Nat.lt_succ_self k)
        rw [HGK.out] at hne
        rw [World.cell?_setCell_other _ _ _ _ (by intro h2;simp only [Addr.mk.injEq] at h2;omega),World.cell?_setCell_other _ _ _ _ (by intro h2;simp only [Addr.mk.injEq] at h2;omega)]
        exact (hS6.cell (p:=⟨w.heap.size,i,none⟩) hgo).trans hv')
      clear hS hS5 hS6 hl5 hl6 hb6 hrow6 q0 q1 f0 f1 HM6 hfr hset hchg hM7 HM4 HC4 HB4 HOC HRW
      rw [show W4.drew.heap.size = W4.heap.size from rfl,show w6.setCells g (k * 2) [.int .i64 0,.slice (some ⟨W4.heap.size,0,none⟩) 1 1] = (w6.setCell ⟨g,k * 2,none⟩ (.int .i64 0)).setCell ⟨g,k * 2 + 1,none⟩ (.slice (some ⟨W4.heap.size,0,none⟩) 1 1) from rfl]
      generalize (w6.setCell ⟨g,k * 2,none⟩ (.int .i64 0)).setCell ⟨g,k * 2 + 1,none⟩ (.slice (some ⟨W4.heap.size,0,none⟩) 1 1) = w7 at *
      go_wp2_with fail
      go_roundw
      case rel => exact ⟨k + 1,_,by go_num,by omega,HM7,HC7,HB7⟩
      case measure => simp [intOf];omega
    · have hkn:k = n:=by omega
      have HE:Hid (MatB wr w.heap.size w.heap.size n gr n oneM):=hide (by
        have h:=HM.out
        rw [hkn] at h
        exact h.congr fun i hi c _ => if_pos hi)
      clear HM HC
      go_wp2_with fail
      go_ret
      exact ⟨_,_,rfl,HE.out,HB.out⟩

set_option maxRecDepth 100000 in
set_option maxHeartbeats 8000000 in
theorem burau_any' (F:PolyC) (m:Int) (A:Option Addr) (n c:Nat) (xs:List Int) (w:World) (ha:SL w A n c xs) (hm:(Lit.int .i64 m).wf = true) :
    Calls Tryz.prog 35 #[.int .i64 m,.slice A n c] w (GivesMP w (burE m xs) (burL m xs)):=by
  have HC:=hide (bcheck_any m A n c xs w ha hm)
  have HL:=hide ha.il.len
  have HA:=hide ha.il
  have hns:=ha.il.small
  clear ha
  obtain ⟨f,hf⟩:∃ f,bfault m xs = f:=⟨_,rfl⟩
  have HF:=hide hf
  rw [hf] at HC
  clear hf
  by_cases h0:f = 0
  case neg =>
    have HE:Hid (burE m xs = f):=hide (by unfold burE;rw [HF.out,if_neg h0])
    have HV:Hid (burL m xs = []):=hide (by unfold burL;rw [HE.out,if_neg h0])
    have hne:(f != 0) = true:=by simpa using h0
    clear h0
    go_enter Tryz.func35,Tryz.ntmps35
    go_wp2_with fail
    refine HC.out.mono ?_
    rintro e w1 ⟨rfl,hww⟩
    subst hww
    go_wp2_with fail
    go_ret2
    rw [HE.out,HV.out]
    exact ⟨none,0,0,rfl,⟨rfl,by omega,fun _ => ⟨rfl,rfl⟩,Nat.le_refl _,fun h => absurd h (by omega)⟩,Below.refl _ _⟩
  subst h0
  by_cases h16:16 < n
  · have HE:Hid (burE m xs = 2):=hide (by unfold burE;rw [HF.out,if_pos rfl,if_pos (by rw [HL.out];exact h16)])
    have HV:Hid (burL m xs = []):=hide (by unfold burL;rw [HE.out];rfl)
    go_enter Tryz.func35,Tryz.ntmps35
    go_wp2_with fail
    refine HC.out.mono ?_
    rintro e w1 ⟨rfl,hww⟩
    subst hww
    go_wp2_with fail
    go_ret2
    rw [HE.out,HV.out]
    exact ⟨none,0,0,rfl,⟨rfl,by omega,fun _ => ⟨rfl,rfl⟩,Nat.le_refl _,fun h => absurd h (by omega)⟩,Below.refl _ _⟩
  have HE:Hid (burE m xs = 0):=hide (by unfold burE;rw [HF.out,if_pos rfl,if_neg (by rw [HL.out];exact h16)])
  have HV:Hid (burL m xs = buL m.toNat xs):=hide (by unfold burL;rw [HE.out,if_pos rfl])
  have hz:=bfault_zero HF.out
  obtain ⟨N,hN⟩:∃ N:Nat,m = (N:Int):=⟨m.toNat,by omega⟩
  subst hN
  have hN6:N ≤ 6:=by omega
  rw [Int.toNat_natCast] at HV
  have HX:Hid (∀ k,k < n → xs.getD k 0 ≠ 0 ∧ (xs.getD k 0).natAbs < N):=hide (fun k hk => by
    have hlx:k < xs.length:=by rw [HL.out];exact hk
    have:=hz.2.2.2 (xs.getD k 0) (by rw [show xs.getD k 0 = xs[k] by simp [List.getD,hlx]];exact List.getElem_mem _)
    omega)
  clear hz
  have HF9:=hide F
  have HP:Hid (∀ l,l < n → 3 ^ l ≤ 20000000):=hide (fun l hl => Nat.le_trans (Nat.pow_le_pow_right (by omega) (show l ≤ 15 by omega)) (by decide))
  have HP16:Hid (3 ^ n ≤ 100000000):=hide (Nat.le_trans (Nat.pow_le_pow_right (by omega) (show n ≤ 16 by omega)) (by decide))
  have HST:Hid (∀ l,l < n → ∀ r,r < N → ∀ c,c < N → bu N (xs.take (l + 1)) r c = stepR (xs.getD l 0) (bu N (xs.take l) r) c):=hide (fun l hl r hr c hc => by
    have hlx:l < xs.length:=by rw [HL.out];exact hl
    rw [List.take_succ_eq_append_getElem hlx,← show xs.getD l 0 = xs[l] by simp [List.getD,hlx]]
    exact bu_snoc (HX.out l hl).1 (HX.out l hl).2 hr hc)
  have HBN:Hid (∀ l,l < n → ∀ r,r < N → ∀ j,j < N → LP.N1 (bu N (xs.take l) r j) l (3 ^ l)):=hide (fun l hl r hr j hj => by
    have h:=(bu_rn (n:=N) (xs.take l)).entry hr hj
    rw [List.length_take,HL.out,Nat.min_eq_left (by omega)] at h
    exact h)
  have HRT:Hid (∀ i,i < N → ∀ j,j < N → LP.Rt (bu N xs i j)):=hide (fun i hi j hj => by
    have h:=(bu_rn (n:=N) xs).entry hi hj
    rw [HL.out] at h
    exact h.rt (by omega) HP16.out)
  clear F
  go_enter Tryz.func35,Tryz.ntmps35
  go_wp2_with fail
  refine HC.out.mono ?_
  rintro e w1 ⟨rfl,hww⟩
  subst hww
  go_wp2_with fail
  refine (identity_any N w hN6).mono ?_
  rintro e w1 ⟨go,gr,rfl,hM,hb⟩
  have HM:Hid (MatB w1 w.heap.size go N gr N (fun i j => if i < 0 then bu N xs i j else bu N (xs.take 0) i j)):=hide (hM.congr fun i hi c hc => (by rw [List.take_zero,if_neg (by omega)];rfl))
  have HB:=hide hb
  clear hM hb
  go_wp2_with fail
  go_loopw [25] (fun iv wr => ∃ k:Nat,iv = .int .i64 k ∧ k ≤ N ∧ Hid (MatB wr w.heap.size go N gr N (fun i j => if i < k then bu N xs i j else bu N (xs.take 0) i j)) ∧ Hid (Below w.heap.size w wr)) (fun iv _ => N - (intOf iv).toNat)
  case atStart => exact ⟨0,rfl,Nat.zero_le _,HM,HB⟩
  case round =>
    clear HM HB
    obtain ⟨k,rfl,hk,HM,HB⟩:=hrel
    by_cases hlt:k < N
    · have hoc:=HM.out.out k hlt
      have HML:Hid (MatB wr w.heap.size go N gr N (fun i j => if i < k then bu N xs i j else if i = k then bu N (xs.take 0) i j else bu N (xs.take 0) i j)):=hide (HM.out.congr fun i hi c hc => by
        show (if i < k then _ else _) = if i < k then _ else _
        split
        · rfl
        · split <;> rfl)
      have HBL:=HB
      have HLT:=hide hlt
      rename World => wo
      clear HM HB
      go_wp2_with fail
      clear hoc hlt
      go_loopw [31] (fun jv wx => ∃ l:Nat,jv = .int .i64 l ∧ l ≤ n ∧ Hid (MatB wx w.heap.size go N gr N (fun i j => if i < k then bu N xs i j else if i = k then bu N (xs.take l) i j else bu N (xs.take 0) i j)) ∧ Hid (Below w.heap.size w wx)) (fun jv _ => n - (intOf jv).toNat)
      case atStart => exact ⟨0,rfl,Nat.zero_le _,HML,HBL⟩
      case round =>
        clear HML HBL
        obtain ⟨l,rfl,hl,HM,HB⟩:=hrel
        by_cases hln:l < n
        · obtain ⟨ad,rfl,hx⟩:=(HA.out.below HB.out).at_ hln
          obtain ⟨hx0,hx1⟩:=HX.out l hln
          have hrow:=(HM.out.row k HLT.out).congr (Y:=bu N (xs.take l) k) fun j hj => by show (if k < k then _ else if k = k then _ else _) = _;rw [if_neg (Nat.lt_irrefl k),if_pos rfl]
          have HAP:=hide (apply_any HF9.out (gr k) N (FreB go gr N) (bu N (xs.take l) k) (xs.getD l 0) l (3 ^ l) wr hrow HM.out.fresh (fun h => h.2 k HLT.out rfl) hx0 hx1 hN6 (by omega) (HP.out l hln) (HBN.out l hln k HLT.out))
          have HS:=hide (HST.out l hln)
          clear hrow hx0 hx1
          generalize xs.getD l 0 = x at *
          go_wp2_with fail
          refine HAP.out.mono ?_
          rintro e w2 ⟨rfl,hrow2,hg2⟩
          have hM2:=HM.out.chg (r:=k) (Y:=fun i j => if i < k then bu N xs i j else if i = k then bu N (xs.take (l + 1)) i j else bu N (xs.take 0) i j) HLT.out hg2 (hrow2.congr fun j hj => by
            show _ = (if k < k then _ else if k = k then _ else _)
            rw [if_neg (Nat.lt_irrefl k),if_pos rfl]
            exact (HS.out k HLT.out j hj).symm) (fun i hi hne c hc => by
            show (if i < k then _ else if i = k then _ else _) = (if i < k then _ else if i = k then _ else _)
            rw [if_neg hne,if_neg hne])
          have HM2:=hide hM2
          have HB2:=hide (HB.out.grown hg2 HB.out.size (fun b hb => by injection hb with hb;rw [← hb];exact HM.out.base_le.2 k HLT.out))
          clear hrow2 hg2 hM2 HAP HS HM HB hx
          go_wp2_with fail
          go_roundw
          case rel => exact ⟨l + 1,by go_num,by omega,HM2,HB2⟩
          case measure => simp [intOf];omega
        · have hle:l = n:=by omega
          have HM2:Hid (MatB wr w.heap.size go N gr N (fun i j => if i < k + 1 then bu N xs i j else bu N (xs.take 0) i j)):=hide (HM.out.congr fun i hi c hc => by
            show (if i < k then _ else if i = k then _ else _) = if i < k + 1 then _ else _
            rw [hle,List.take_of_length_le (Nat.le_of_eq HL.out)]
            by_cases h1:i < k
            · rw [if_pos h1,if_pos (by omega)]
            · by_cases h2:i = k
              · rw [if_neg h1,if_pos h2,if_pos (by omega)]
              · rw [if_neg h1,if_neg h2,if_neg (by omega)])
          have hlt:=HLT.out
          clear HM hle
          go_wp2_with fail
          go_roundw
          case rel => exact ⟨k + 1,by go_num,by omega,HM2,HB⟩
          case measure => simp [intOf];omega
    · have hkn:k = N:=by omega
      have HS:Hid (SPP wr (some ⟨go,0,none⟩) N N (burL (N:Int) xs)):=hide (by
        rw [HV.out]
        refine (HM.out.congr (Y:=bu N xs) fun i hi c hc => ?_).spp (by omega) HRT.out
        exact if_pos (by omega))
      clear HM hkn
      go_wp2_with fail
      go_ret2
      exact ⟨_,_,_,by rw [HE.out];rfl,HS.out,HB.out⟩

end Go.Proofs.YtndgffiihbdppaaGreatDoor
namespace Go.Proofs.YtndgffiihbdppaaGreatDoor
open Go.RowKit
theorem braidC:BraidC where
  check:=fun m A n c xs w h hm => (bcheck_any m A n c xs w h hm).mono fun e w' ⟨h1,h2⟩ => ⟨h1,by rw [← h2];exact Below.refl _ _⟩
  perm := bperm_any -- 43
  expo := bexpo_any -- 46
  burau := burau_any' polyC -- 35
end Go.Proofs.YtndgffiihbdppaaGreatDoor
namespace Go.Proofs.YtndgffiihbdppaaGreatDoor
set_option linter.unusedVariables false
set_option linter.unusedSimpArgs false
open Go.RowKit

theorem colV_bad' {nn kk:Int} {xs:List Int} (h:colE nn xs kk ≠ 0):colV nn xs kk = 0:=by unfold colV;rw [if_neg h]
theorem colE_zero {m k:Int} {xs:List Int} (h:colE m xs k = 0):bfault m xs = 0 ∧ 1 ≤ k ∧ k ≤ 13:=by
  unfold colE at h
  by_cases h0:bfault m xs = 0
  · rw [if_neg (by omega)] at h
    by_cases h1:k < 1 ∨ 13 < k
    · rw [if_pos h1] at h;omega
    · exact ⟨h0,by omega,by omega⟩
  · rw [if_pos h0] at h;exact absurd h h0

set_option maxRecDepth 100000 in
set_option maxHeartbeats 4000000 in
theorem clcount_any (m:Int) (A:Option Addr) (n c:Nat) (xs:List Int) (k:Int) (w:World) (ha:SL w A n c xs) (hT:TabW w) (hm:(Lit.int .i64 m).wf = true) (hwk:(Lit.int .i64 k).wf = true) :
    Calls Tryz.prog 8 #[.int .i64 m,.slice A n c,.int .i64 k] w fun e w' => e = .returned (.tuple #[.int .i64 (colV m xs k),.int .i64 (colE m xs k)]) ∧ Below w.heap.size w w':=by
  have HC:=hide (clcheck_any braidC m A n c xs k w ha hm)
  by_cases h0:colE m xs k = 0
  · obtain ⟨hb,hk1,hk2⟩:=colE_zero h0
    obtain ⟨g1,g6,gl,gx⟩:=bfault_zero hb
    obtain ⟨N,rfl⟩:∃ N:Nat,m = N:=⟨m.toNat,by omega⟩
    obtain ⟨K,rfl⟩:∃ K:Nat,k = K:=⟨k.toNat,by omega⟩
    have hx:∀ x ∈ xs,x ≠ 0 ∧ x.natAbs < N:=fun x h => by have:=gx x h;omega
    have HV:Hid (colV N xs K = (cntC N K xs:Int)):=hide (by unfold colV;rw [if_pos h0,Int.toNat_natCast,Int.toNat_natCast])
    have HS:=hide (dMx_sol (m:=K) (n:=N) (w:=xs) (by omega) (by omega) (by omega) (by omega) hx)
    have HD:=hide (fun (w:World) (h:SL w A n c xs) => cldiff_any A n c xs K N w h hx (by omega) (by omega) (by omega) (by omega))
    have HA:=hide ha
    have HTB:=hide hT
    have HWK:=hide hwk
    rw [h0,HV.out]
    rw [h0] at HC
    clear ha hT hwk hm hb hx gx gl h0 HV g1 g6 hk1 hk2
    go_enter Tryz.func8,Tryz.ntmps8
    go_wp2_with fail
    refine HC.out.mono ?_
    rintro e w1 ⟨rfl,hb⟩
    have HW:=hide hb
    clear hb HC
    go_wp2_with fail
    refine (HD.out _ (HA.out.below HW.out)).mono ?_
    rintro e w2 ⟨g,rfl,hs,hb⟩
    replace HW:=hide (HW.out.trans (hb.mono HW.out.size))
    have HSL:=hide hs
    clear hb hs HD
    go_wp2_with fail
    refine (imsol_any _ N N _ (K:Int) _ HSL.out (HTB.out.below HW.out) HWK.out).mono ?_
    rintro e w3 ⟨rfl,hb⟩
    replace HW:=hide (HW.out.trans (hb.mono HW.out.size))
    rw [HS.out.1,HS.out.2]
    clear hb
    go_wp2_with fail
    go_ret2
    exact ⟨rfl,HW.out⟩
  · have HV:Hid (colV m xs k = 0):=hide (colV_bad' h0)
    rw [HV.out]
    generalize colE m xs k = E at *
    have hb0:(E != 0) = true:=by simpa using h0
    clear ha hT HV hm hwk h0
    go_enter Tryz.func8,Tryz.ntmps8
    go_wp2_with fail
    refine HC.out.mono ?_
    rintro e w1 ⟨rfl,hb⟩
    have HW:=hide hb
    clear hb HC
    go_wp2_with fail
    go_ret2
    exact ⟨rfl,HW.out⟩

theorem colC:ColC where
  count:=fun m A n c xs k w h1 hT h3 h4 => clcount_any m A n c xs k w h1 hT h3 h4
end Go.Proofs.YtndgffiihbdppaaGreatDoor
namespace Go.Proofs.YtndgffiihbdppaaGreatDoor
set_option linter.unusedVariables false
set_option linter.unusedSimpArgs false
open Go.RowKit

def wr64 (a:Int):Int:=IntKind.i64.wrap a
theorem wr64_eq (a:Int):wr64 a = (a + 9223372036854775808) % 18446744073709551616 - 9223372036854775808:=by unfold wr64;rw [IntKind.wrap_i64]
theorem wr64_congr {a b:Int} (h:a % 18446744073709551616 = b % 18446744073709551616):wr64 a = wr64 b:=by rw [wr64_eq,wr64_eq];omega
theorem wr64_mod (a:Int):wr64 a % 18446744073709551616 = a % 18446744073709551616:=by rw [wr64_eq];omega
theorem wr64_small {a:Int} (h:a.natAbs ≤ 9223372036854775807):wr64 a = a:=by rw [wr64_eq];omega
theorem wr64_step (a s x y:Int):IntKind.i64.wrap (wr64 a + IntKind.i64.wrap (s * x * wr64 y)) = wr64 (a + s * x * y):=by
  show wr64 (wr64 a + wr64 (s * x * wr64 y)) = _
  apply wr64_congr
  have h:(s * x * wr64 y) % 18446744073709551616 = (s * x * y) % 18446744073709551616:=by
    rw [Int.mul_emod,wr64_mod,← Int.mul_emod]
  have h2:=wr64_mod (s * x * wr64 y)
  have h3:=wr64_mod a
  omega
theorem map_wr64 {ys:List Int} (h:∀ y ∈ ys,y.natAbs ≤ 9223372036854775807):ys.map wr64 = ys:=by
  conv => rhs;rw [← List.map_id ys]
  exact List.map_congr_left fun y hy => wr64_small (h y hy)
theorem getD_wr64 (ys:List Int) (j:Nat):(ys.map wr64).getD j 0 = wr64 (ys.getD j 0):=by
  simp only [List.getD,List.getElem?_map]
  cases ys[j]? <;> rfl
theorem set_wr64 (ys:List Int) (j:Nat) (v:Int):(ys.map wr64).set j (wr64 v) = (ys.set j v).map wr64:=by rw [List.map_set]
theorem LP.of_set {b:Int} {ys:List Int} {j:Nat} (h:j < ys.length) (c:Int):LP.of b (ys.set j (ys.getD j 0 + c)) = LP.of b ys + LP.term (b + j) c:=LP.ext fun k => by
  rw [LP.co_add,LP.co_term,LP.co_of,LP.co_of,List.length_set]
  by_cases hk:b + j = k
  · subst hk
    rw [if_pos (by omega),if_pos (by omega),if_pos rfl,show (b + (j:Int) - b).toNat = j by omega]
    simp [List.getD,h]
  · rw [if_neg hk,Int.add_zero]
    by_cases h2:b ≤ k ∧ k < b + ys.length
    · rw [if_pos h2,if_pos h2]
      have:j ≠ (k - b).toNat:=by omega
      simp [List.getD,List.getElem?_set,this]
    · rw [if_neg h2,if_neg h2]
theorem LP.of_repl (b:Int) (n:Nat):LP.of b (List.replicate n 0) = 0:=LP.ext fun k => by
  rw [LP.co_of,LP.co_zero]
  split
  · simp [List.getD,List.getElem?_replicate]
    split <;> rfl
  · rfl
def apS (S:LP) (sg lo:Int) (xs:List Int) (b:Int) (ys:List Int) (i k:Nat):LP:=
  S + LP.term 0 sg * (LP.of lo (xs.take i) * LP.of b ys) + LP.term 0 sg * (LP.term (lo + i) (xs.getD i 0) * LP.of b (ys.take k))
theorem LP.of_nil (lo:Int):LP.of lo [] = 0:=rfl
theorem apS_zero (S:LP) (sg lo:Int) (xs:List Int) (b:Int) (ys:List Int):apS S sg lo xs b ys 0 0 = S:=by
  unfold apS
  simp only [List.take_zero,LP.of_nil,CR.zero_mul,CR.mul_zero,CR.add_zero]
theorem apS_step (S:LP) (sg lo:Int) (xs:List Int) (b:Int) {ys:List Int} (i:Nat) {k:Nat} (hk:k < ys.length):apS S sg lo xs b ys i (k + 1) = apS S sg lo xs b ys i k + LP.term (lo + i + (b + k)) (sg * xs.getD i 0 * ys.getD k 0):=by
  unfold apS
  have e:LP.term 0 sg * (LP.term (lo + i) (xs.getD i 0) * LP.term (b + k) (ys.getD k 0)) = LP.term (lo + i + (b + k)) (sg * xs.getD i 0 * ys.getD k 0):=by
    rw [LP.term_mul,LP.term_mul,Int.mul_assoc,Int.zero_add]
  rw [LP.of_take hk,CR.mul_add,CR.mul_add,e,← CR.add_assoc (R:=LP)]
theorem apS_row (S:LP) (sg lo:Int) {xs:List Int} (b:Int) (ys:List Int) {i:Nat} (hi:i < xs.length):apS S sg lo xs b ys i ys.length = apS S sg lo xs b ys (i + 1) 0:=by
  unfold apS
  simp only [List.take_length,List.take_zero,LP.of_nil,CR.mul_zero,CR.add_zero]
  rw [LP.of_take hi,CR.add_mul,CR.mul_add,CR.add_assoc]
theorem apS_end (S:LP) (sg lo:Int) (xs:List Int) (b:Int) (ys:List Int):apS S sg lo xs b ys xs.length 0 = S + LP.term 0 sg * (LP.of lo xs * LP.of b ys):=by
  unfold apS
  simp only [List.take_length,List.take_zero,LP.of_nil,CR.mul_zero,CR.add_zero]
def pmM (pss:List (List Po)) (cs:List Int):Mtx LP:=fun i j => LP.of ((pss.getD i []).getD (cs.getD j 0).toNat (0,[])).1 ((pss.getD i []).getD (cs.getD j 0).toNat (0,[])).2
theorem without_getD {xs:List Int} {i b:Nat} (h:i < xs.length):(without xs i).getD b 0 = xs.getD (CR.skip i b) 0:=by
  unfold without CR.skip
  simp only [List.getD,List.getElem?_append,List.length_take,List.getElem?_take,List.getElem?_drop]
  rw [Nat.min_eq_left (by omega)]
  by_cases h1:b < i
  · rw [if_pos h1,if_pos h1,if_pos h1]
  · rw [if_neg h1,if_neg h1,show i + 1 + (b - i) = b + 1 by omega]
theorem without_mem {xs:List Int} {i:Nat} {x:Int} (h:x ∈ without xs i):x ∈ xs:=by
  unfold without at h
  rcases List.mem_append.1 h with h | h
  · exact List.mem_of_mem_take h
  · exact List.mem_of_mem_drop h
def pmE (pss:List (List Po)) (cs:List Int) (k n:Nat):LP:=CR.sumN k fun j => CR.sgR LP j * (pmM pss cs 0 j * detR n fun a b => pmM pss cs (a + 1) (CR.skip j b))
theorem pmE_full (pss:List (List Po)) (cs:List Int) (n:Nat):pmE pss cs (n + 1) n = detR (n + 1) (pmM pss cs):=rfl
theorem sgR_tm0 (j:Nat):CR.sgR LP j = LP.term 0 (CR.sgR Int j):=by
  unfold CR.sgR
  split
  · rfl
  · show -LP.term 0 1 = LP.term 0 (-1)
    refine LP.ext fun k => ?_
    rw [LP.co_neg,LP.co_term,LP.co_term]
    split <;> rfl
theorem pmE_step (ps:List Po) (pss:List (List Po)) {cs:List Int} {k:Nat} (hk:k < cs.length) {lo:Int} {xs:List Int} (hp:ps.getD (cs.getD k 0).toNat (0,[]) = (lo,xs)) (n:Nat) (D:LP) (hD:D = detR n (pmM pss (without cs k))) :
    pmE (ps :: pss) cs (k + 1) n = pmE (ps :: pss) cs k n + LP.term 0 (CR.sgR Int k) * (LP.of lo xs * D):=by
  unfold pmE
  rw [CR.sumN_succ,← sgR_tm0,hD]
  congr 1
  congr 1
  congr 1
  · unfold pmM
    show LP.of (ps.getD (cs.getD k 0).toNat (0,[])).1 _ = _
    rw [hp]
    show LP.of lo (ps.getD (cs.getD k 0).toNat (0,[])).2 = _
    rw [hp]
  · congr 1
    funext a b
    unfold pmM
    rw [without_getD hk]
    rfl
theorem sgI_cases (j:Nat):CR.sgR Int j = 1 ∨ CR.sgR Int j = -1:=by
  unfold CR.sgR
  split
  · exact .inl rfl
  · exact .inr rfl
def colL (k:Nat):List Int:=(List.range k).map fun i:Nat => (i:Int)
theorem colL_succ (k:Nat):colL (k + 1) = colL k ++ [(k:Int)]:=by simp [colL,List.range_succ]
theorem colL_getD {k j:Nat} (h:j < k):(colL k).getD j 0 = (j:Int):=by simp [colL,List.getD,h]
theorem colL_mem {k:Nat} {x:Int} (h:x ∈ colL k):0 ≤ x ∧ x < k:=by
  unfold colL at h
  obtain ⟨i,hi,rfl⟩:=List.mem_map.1 h
  have:=List.mem_range.1 hi
  omega
theorem pmM_colL (pss:List (List Po)) (n:Nat):detR n (pmM pss (colL n)) = detR n (mP pss):=detR_congr fun i _ j hj => by
  unfold pmM mP
  rw [colL_getD hj,Int.toNat_natCast]
end Go.Proofs.YtndgffiihbdppaaGreatDoor
namespace Go.Proofs.YtndgffiihbdppaaGreatDoor
set_option linter.unusedVariables false
set_option linter.unusedSimpArgs false
open CR

structure AlF (N:Nat) (u v:List Int):Prop where
  ru:∀ i,i < N → ∀ j,j < N → LP.Rt (bu N u i j)
  rv:∀ i,i < N → ∀ j,j < N → LP.Rt (bu N v i j)
  rp:∀ i,i < N → ∀ k,k < N → ∀ j,j < N → LP.Rt (bu N u i k * bu N v k j)
  rs:∀ i,i < N → ∀ j,j < N → ∀ m,m ≤ N → LP.Rt (CR.sumN m fun k => bu N u i k * bu N v k j)
  sm:∀ i,i < N → ∀ j,j < N → LP.N1 (bu N (u ++ v) i j) 20 99999999
theorem AlF.of_RN {N E1 E2 V1 V2:Nat} {u v:List Int} (h1:RN N (bu N u) E1 V1) (h2:RN N (bu N v) E2 V2) (hE:E1 + E2 ≤ 20) (hV:V1 * V2 ≤ 99999999) (a1:V1 ≤ 100000000) (a2:V2 ≤ 100000000):AlF N u v:=by
  refine ⟨fun i hi j hj => (h1.entry hi hj).rt (by omega) a1,fun i hi j hj => (h2.entry hi hj).rt (by omega) a2,fun i hi k hk j hj => ((h1.entry hi hk).mul (h2.entry hk hj)).rt (by omega) (by omega),fun i hi j hj m hm => (h1.part h2 hi hj hm).rt (by omega) (by omega),fun i hi j hj => ?_⟩
  rw [bu_append N u v i hi j hj]
  exact (h1.part h2 hi hj (Nat.le_refl _)).mono hE hV
theorem AlF.short {N:Nat} {u v:List Int} (hl:u.length + v.length ≤ 16):AlF N u v:=by
  have p1:3 ^ u.length ≤ 43046721:=pow3 (by omega)
  have p2:3 ^ v.length ≤ 43046721:=pow3 (by omega)
  refine AlF.of_RN (bu_rn u) (bu_rn v) (by omega) ?_ (by omega) (by omega)
  rw [← Nat.pow_add]
  have:=pow3 hl
  omega
theorem rn_ten {u:List Int} (hu:okB 2 u) (hl:u.length ≤ 10):RN 2 (bu 2 u) 10 4968:=by
  have o1:okB 2 (u.drop 1):=fun x hx => hu x (List.mem_of_mem_drop hx)
  have h1:RN 2 (bu 2 (u.drop 1)) 9 1656:=⟨fun _ _ => 828,fun i hi j hj => bu_small (Nat.le_refl 2) (by omega) o1 (by simp;omega) hi hj,fun i hi => by show 0 + 828 + 828 ≤ 1656;omega⟩
  have h2:RN 2 (bu 2 (u.take 1)) 1 3:=(bu_rn (u.take 1)).mono (by simp;omega) (by
    have:3 ^ (u.take 1).length ≤ 3 ^ 1:=Nat.pow_le_pow_right (by omega) (by simp;omega)
    simpa using this)
  have h3:=(h2.mul h1).congr (EqM.symm (bu_append 2 (u.take 1) (u.drop 1)))
  rw [List.take_append_drop] at h3
  exact h3
theorem AlF.two {u v:List Int} (hu:okB 2 u) (hv:okB 2 v) (lu:u.length ≤ 10) (lv:v.length ≤ 10):AlF 2 u v:=
  AlF.of_RN (rn_ten hu lu) (rn_ten hv lv) (by omega) (by decide) (by decide) (by decide)
theorem okB_one {w:List Int} (h:okB 1 w):w = []:=by
  cases w with
  | nil => rfl
  | cons x w => have:=h x (by simp);omega
theorem AlF.all {N:Nat} {w:List Int} (hw:okB N w) (h1:1 ≤ N) (hl:w.length ≤ 20) (hf:w.length ≤ 16 ∨ N ≤ 2):AlF N (w.take (w.length / 2)) (w.drop (w.length / 2)):=by
  by_cases h:w.length ≤ 16
  · exact AlF.short (by rw [List.length_take,List.length_drop];omega)
  · have h2:N = 2:=by
      by_cases e:N = 1
      · subst e
        rw [okB_one hw] at h
        simp at h
      · omega
    subst h2
    exact AlF.two (fun x hx => hw x (List.mem_of_mem_take hx)) (fun x hx => hw x (List.mem_of_mem_drop hx)) (by rw [List.length_take];omega) (by rw [List.length_drop];omega)
noncomputable def imA (N:Nat) (w:List Int):Mtx LP:=fun i j => oneM i j + -(bu N w i j)
theorem adet_im (N:Nat) (w:List Int):adet N w = detR (N - 1) (imA N w):=rfl
theorem imA_n1 {N:Nat} {w:List Int} {i j:Nat} (h:LP.N1 (bu N w i j) 20 99999999):LP.N1 (imA N w i j) 20 100000000:=by
  have h1:LP.N1 ((oneM:Mtx LP) i j) 20 1:=by
    unfold oneM
    split
    · exact LP.N1.one.mono (by omega) (by omega)
    · exact LP.N1.zero.mono (by omega) (by omega)
  exact (h1.add h.neg).mono (Nat.le_refl _) (by omega)
theorem detR_1 (M:Mtx LP):detR 1 M = M 0 0:=by
  show CR.sumN 1 (fun j => CR.sgR LP j * (M 0 j * 1)) = _
  rw [CR.sumN_succ]
  show CR.sumN 0 _ + CR.sgR LP 0 * (M 0 0 * 1) = _
  rw [CR.mul_one]
  show 0 + 1 * M 0 0 = _
  rw [CR.zero_add,CR.one_mul]
theorem CE.of_n1 {x:LP} {E V:Nat} (h:LP.N1 x E V):CE x E V:=⟨fun k hk => h.supp hk,h.co⟩
theorem adet_ce {N:Nat} {w:List Int} (hw:okB N w) (h1:1 ≤ N) (h6:N ≤ 6) (hl:w.length ≤ 20) (hf:w.length ≤ 16 ∨ N ≤ 2):CE (adet N w) 20 100000000:=by
  by_cases h:w.length ≤ 16
  · obtain ⟨M,rfl⟩:∃ M,N = M + 1:=⟨N - 1,by omega⟩
    exact (adet_16 (by omega) hw h).mono (by omega) (by omega)
  · have h2:N = 2:=by
      by_cases e:N = 1
      · subst e
        rw [okB_one hw] at h
        simp at h
      · omega
    subst h2
    have h3:=(AlF.all hw h1 hl hf).sm 0 (by omega) 0 (by omega)
    rw [List.take_append_drop] at h3
    rw [adet_im,show 2 - 1 = 1 from rfl,detR_1]
    exact CE.of_n1 (imA_n1 h3)
noncomputable def imL (N:Nat) (w:List Int):List (List Po):=(List.range (N - 1)).map fun i => (List.range (N - 1)).map fun j => cP (imA N w i j)
theorem tabA_at {k:Nat} {X:Mtx LP} {i j:Nat} (hi:i < k) (hj:j < k):(((List.range k).map fun i => (List.range k).map fun j => cP (X i j)).getD i []).getD j (0,[]) = cP (X i j):=by simp [List.getD,hi,hj]
theorem imL_det (N:Nat) (w:List Int):detR (N - 1) (pmM (imL N w) (colL (N - 1))) = adet N w:=by
  rw [pmM_colL,adet_im]
  refine detR_congr fun i hi j hj => ?_
  unfold mP imL
  rw [tabA_at hi hj]
  exact of_cP _
theorem CE.take_ {b:Int} {ys:List Int} {E V:Nat} (h:CE (LP.of b ys) E V) (i:Nat):CE (LP.of b (ys.take i)) E V:=by
  have e:∀ k,LP.co (LP.of b (ys.take i)) k = 0 ∨ LP.co (LP.of b (ys.take i)) k = LP.co (LP.of b ys) k:=fun k => by
    rw [LP.co_of,LP.co_of,List.length_take]
    by_cases h1:b ≤ k ∧ k < b + (min i ys.length:Nat)
    · rw [if_pos h1,if_pos (by omega)]
      right
      simp only [List.getD,List.getElem?_take]
      rw [if_pos (by omega)]
    · rw [if_neg h1]
      exact .inl rfl
  refine ⟨fun k hk => h.ex k ?_,fun k => ?_⟩
  · rcases e k with e1 | e1
    · exact absurd e1 hk
    · rwa [← e1]
  · rcases e k with e1 | e1
    · rw [e1];exact Nat.zero_le _
    · rw [e1];exact h.cf k
theorem CE.at_ {b:Int} {ys:List Int} {E V:Nat} (h:CE (LP.of b ys) E V) {i:Nat} (hi:i < ys.length):(ys.getD i 0).natAbs ≤ V ∧ (ys.getD i 0 ≠ 0 → (b + i).natAbs ≤ E):=by
  have e:LP.co (LP.of b ys) (b + i) = ys.getD i 0:=by
    rw [LP.co_of,if_pos (by omega),show (b + (i:Int) - b).toNat = i by omega]
  refine ⟨by rw [← e];exact h.cf _,fun h0 => h.ex _ (by rw [e];exact h0)⟩
theorem canon_tm {e c:Int} (h:c ≠ 0):LP.canon (LP.term e c) = (e,[c]):=LP.canon_eq (.inr ⟨by simp,by simpa using h,by simpa using h⟩) (LP.of_one e c)
theorem canon_more {b:Int} {ys:List Int} (h:CE (LP.of b ys) 20 100000000) {i:Nat} (hi:i < ys.length) (h0:ys.getD i 0 ≠ 0) :
    LP.addR (LP.canon (LP.of b (ys.take i))).1 (LP.canon (LP.of b (ys.take i))).2 (b + i) [ys.getD i 0] = (0,(LP.canon (LP.of b (ys.take (i + 1)))).1,(LP.canon (LP.of b (ys.take (i + 1)))).2):=by
  have r1:LP.Rt (LP.of b (ys.take i)):=(h.take_ i).rt (by omega) (Nat.le_refl _)
  have r3:LP.Rt (LP.of b (ys.take (i + 1))):=(h.take_ (i + 1)).rt (by omega) (Nat.le_refl _)
  obtain ⟨c1,c2⟩:=h.at_ hi
  have c3:=c2 h0
  have r2:LP.Rt (LP.term (b + i) (ys.getD i 0)):=((LP.N1.term (b + i) (ys.getD i 0)).mono c3 c1).rt (by omega) (Nat.le_refl _)
  have e:=LP.addR_canon r1 r2 (by rw [← LP.of_take hi];exact r3)
  rw [← LP.of_take hi,canon_tm h0] at e
  exact e
theorem canon_same {b:Int} {ys:List Int} {i:Nat} (hi:i < ys.length) (h0:ys.getD i 0 = 0):LP.of b (ys.take (i + 1)) = LP.of b (ys.take i):=by
  rw [LP.of_take hi,h0]
  refine LP.ext fun k => ?_
  rw [LP.co_add,LP.co_term]
  split <;> omega
theorem alP_eq {N:Nat} {w:List Int} (h:alE (N:Int) w = 0):alP (N:Int) w = LP.normC (LP.canon (adet N w)).2:=by unfold alP;rw [if_pos h,Int.toNat_natCast]
end Go.Proofs.YtndgffiihbdppaaGreatDoor
namespace Go.Proofs.YtndgffiihbdppaaGreatDoor
set_option linter.unusedVariables false
set_option linter.unusedSimpArgs false
open Go.RowKit

theorem cell_at_var {w:World} {a:Addr} {v:Value} (h:w.cell? a = some v):∃ g o,a = ⟨g,o,none⟩:=by
  obtain ⟨g,o,p⟩:=a
  cases p with
  | none => exact ⟨g,o,rfl⟩
  | some p =>
    exfalso
    unfold World.cell? at h
    split at h
    · simp at h
    · cases h
theorem rangeAt_two {z:World} {g o:Nat} {u v:Value} (h0:z.cell? ⟨g,o,none⟩ = some u) (h1:z.cell? ⟨g,o + 1,none⟩ = some v):z.rangeAt g o [u,v]:=fun j x hx => by
  match j,hx with
  | 0,hx => injection hx with hx;rw [← hx];exact h0
  | 1,hx => injection hx with hx;rw [← hx];exact h1
theorem SPP.tail_ {w:World} {A:Option Addr} {n c:Nat} {pss:List (List Po)} (h:SPP w A n c pss) (h1:1 ≤ n):SPP w (cutA A 1 c) (n - 1) (c - 1) (pss.drop 1):=by
  have hl:=h.len
  have hc:=h.cap
  refine ⟨by simp;omega,by have:=h.small;omega,fun e => cutA_none h.nil h1 (Nat.le_refl n) e,by omega,fun h0 => ?_⟩
  obtain ⟨ad,rfl,hlt,hcl⟩:=h.mem (by omega)
  unfold cutA
  rw [if_neg (by omega)]
  refine ⟨ad.add 1,rfl,by rw [block_of_add];exact hlt,fun j hj => ?_⟩
  rw [add_of_add]
  obtain ⟨B,m,d,q1,q2⟩:=hcl (1 + j) (by omega)
  refine ⟨B,m,d,q1,?_⟩
  rw [show (pss.drop 1).getD j [] = pss.getD (1 + j) [] by simp [List.getD,List.getElem?_drop,Nat.add_comm]]
  exact q2
theorem SPP.blk {w:World} {A:Option Addr} {n c:Nat} {pss:List (List Po)} (h:SPP w A n c pss) (h1:1 ≤ n):∀ ad,A = some ad → ad.block < w.heap.size:=fun ad e => by
  obtain ⟨ad2,e2,hl,_⟩:=h.mem (by omega)
  rw [e] at e2
  cases e2
  exact hl

end Go.Proofs.YtndgffiihbdppaaGreatDoor
