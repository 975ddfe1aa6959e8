/- Several texts in one. -/
import Derived.Test.YtndgffiihbdppaaGreatDoorPart28
import Derived.Test.YtndgffiihbdppaaGreatDoorBase2
import Derived.Test.YtndgffiihbdppaaGreatDoorPart3
import Derived.Test.YtndgffiihbdppaaGreatDoorPart13
import Derived.Test.YtndgffiihbdppaaGreatDoorBase1
import Derived.Test.YtndgffiihbdppaaGreatDoorPart12
import Derived.Test.YtndgffiihbdppaaGreatDoorPart1
import Derived.BigRegion
namespace Go.Proofs.YtndgffiihbdppaaGreatDoor
set_option linter.unusedVariables false
set_option linter.unusedSimpArgs false
open Go.RowKit

theorem tbool_info:(Tryz.prog.info? 4).map (fun i => (i.zero,i.size,i.bytes)) = some (some (.bool false),1,1):=by kernel_rfl
theorem tinfo_partsB (h:(Tryz.prog.info? 4).map (fun i => (i.zero,i.size,i.bytes)) = some (some (.bool false),1,1)):∃ i,Tryz.prog.info? 4 = some i ∧ i.zero = some (.bool false) ∧ i.size = 1 ∧ i.bytes = 1:=by
  cases h2:Tryz.prog.info? 4 with
  | none => rw [h2] at h;cases h
  | some i =>
    rw [h2] at h
    simp only [Option.map_some,Option.some.injEq,Prod.mk.injEq] at h
    exact ⟨i,rfl,h.1,h.2.1,h.2.2⟩
theorem gb_below {g:Nat} {w w':World} (hb:Below w.heap.size w w'):w.grownBy w' (some g):=⟨hb.os,hb.tape,hb.output,hb.size,fun b h _ => hb.block b h⟩
theorem gb_trans {g:Nat} {w w1 w2:World} (h1:w.grownBy w1 (some g)) (h2:w1.grownBy w2 (some g)):w.grownBy w2 (some g):=
  ⟨h2.os.trans h1.os,h2.tape.trans h1.tape,h2.output.trans h1.output,Nat.le_trans h1.size h2.size,fun b h hne => (h2.block b (Nat.lt_of_lt_of_le h h1.size) hne).trans (h1.block b h hne)⟩
theorem gb_set {g i:Nat} {w:World} {v:Value}:w.grownBy (w.setCell ⟨g,i,none⟩ v) (some g):=by
  have h:=(Below.refl g w).setCell (p:=⟨g,i,none⟩) (Nat.le_refl _) v
  exact ⟨h.os,h.tape,h.output,h.size,fun b _ hne => Below.heap_setCell w ⟨g,i,none⟩ v b (fun e => hne (by rw [e]))⟩
theorem gb_row {g:Nat} {w:World} {cs:Array Value}:w.grownBy (w.setRow g cs) (some g):=by
  have h:=Below.setRow_ (Below.refl g w) (g:=g) (Nat.le_refl _) cs
  exact ⟨h.os,h.tape,h.output,h.size,fun b _ hne => setRow_other _ _ _ _ (fun e => hne (by rw [e]))⟩
theorem wp_make_full {P:Program} (w:World) {o:Oper} {a:Act} {K:Act → World → Prop} {Q:Exit → Act → World → Prop} (l c:Operand) (t:TypeId) (hop:o.op = Op.makeSlice t l c)
    (base:Nat) (e:TypeId) (i:TypeInfo) (z:Value) (size:Nat) (h1:P.underlying t = some (.slice e)) (h2:P.info? e = some i) (h3:i.zero = some z) (h4:i.size = size)
    (n:Nat) (hl:a.eval l = .int .i64 n) (hc:a.eval c = .int .i64 n) (b2:i.bytes * n ≤ 281474976710656) (b3:n ≤ maxLen) (b4:base ≤ w.heap.size)
    (hK:∀ w',w'.ownsRow base e size (.slice (some ⟨w.heap.size,0,none⟩) n n) n (madeCells z.cells (n * size)).toList → w.grownBy w' none → K (a.put o.dst (.slice (some ⟨w.heap.size,0,none⟩) n n)) w'):o.wp P a w K Q:=by
  obtain ⟨w',hrun,r1,r2⟩:=run_make_full (P:=P) w base t e i z size h1 h2 h3 h4 .i64 .i64 n b2 b3 b4
  unfold Oper.wp
  simp [execOp,hop,hl,hc,hrun,Result.andThen]
  exact hK w' r1 r2
theorem tgives_build {P:Program} {o:Oper} {a:Act} {w:World} {t:TypeId} {l:List (Nat × Operand)} {cells:Array Value} (vs:List (Nat × Value)) (ho:o.op = .build t l.toArray) (hv:(l.map fun (i,x) => (i,a.eval x)) = vs) (hb:P.built t vs = some cells):Gives P o a w (.agg cells):=by
  subst hv
  unfold Gives execOp
  rw [ho]
  have e:((l.toArray.map fun (i,x) => (i,a.eval x)).toList) = l.map fun (i,x) => (i,a.eval x):=by simp
  have:=run_build (P:=P) w t (l.toArray.map fun (i,x) => (i,a.eval x)) cells (by rw [e];exact hb)
  simp only [Sem.run_bind,this,Result.andThen_ok,Sem.run_pure]
theorem results_dia {fn:Func} {t:Tmp} {b:Nat} {v0 v1 v2:Value} {w:World} (h:fn.results = #[.cell t 123]) (tmps:Array Value) (ht:tmps.getD t undef = .pointer (some ⟨b,0,none⟩)) (hb:Blk w b 123 #[v0,v1,v2]) :
    (results fn tmps).run Tryz.prog w = .ok (.agg #[v0,v1,v2]) w:=by
  have h0:=hb.cell 0
  have h1:=hb.cell 1
  have h2:=hb.cell 2
  simp at h0 h1 h2
  have ht2:tmps[t]?.getD undef = .pointer (some ⟨b,0,none⟩):=by simpa using ht
  simp [results,h,ht2,go_sem,h0,h1,h2,Result.andThen]

def bitsV (n:Nat) (S:Nat → Bool):List Value:=(List.range n).map fun i => .bool (S i)
theorem bitsV_get {n:Nat} (S:Nat → Bool) {i:Nat} (hi:i < n):(bitsV n S)[i]? = some (.bool (S i)):=by simp [bitsV,hi]
theorem bitsV_set (n:Nat) (S:Nat → Bool) (i:Nat):(bitsV n S).set i (.bool true) = bitsV n fun x => S x || x == i:=by
  refine List.ext_getElem (by simp [bitsV]) fun j h1 h2 => ?_
  rw [List.getElem_set]
  by_cases e:i = j
  · subst e;simp [bitsV]
  · rw [if_neg e];simp [bitsV];exact fun k => absurd k.symm e
theorem bitsV_congr {n:Nat} {S T:Nat → Bool} (h:∀ i,i < n → S i = T i):bitsV n S = bitsV n T:=List.map_congr_left fun i hi => by rw [h i (List.mem_range.1 hi)]
structure DiaM (w:World) (base N lg lc jg jc sg:Nat) (ls js:List Int) (S:Nat → Bool):Prop where
  lines:OwnI w base (some ⟨lg,0,none⟩) N lc ls
  joints:OwnI w base (some ⟨jg,0,none⟩) N jc js
  seen:OwnG 4 1 w base (some ⟨sg,0,none⟩) N N (bitsV N S)
  ne:lg ≠ jg
  bs:base ≤ lg ∧ base ≤ jg ∧ base ≤ sg
abbrev diaV (N lg lc jg jc sg:Nat):Value:=.agg #[.slice (some ⟨lg,0,none⟩) N lc,.slice (some ⟨jg,0,none⟩) N jc,.slice (some ⟨sg,0,none⟩) N N]
section
variable {w w':World} {base N lg lc jg jc sg:Nat} {ls js:List Int} {S:Nat → Bool}
theorem OwnG.blk {e:TypeId} {sz n c:Nat} {g:Nat} {vs:List Value} (h:OwnG e sz w base (some ⟨g,0,none⟩) n c vs):∃ cs,Blk w g e cs:=by
  obtain ⟨cur,_,hh⟩:=h.cells g rfl
  exact ⟨cur,hh⟩
theorem DiaM.below (h:DiaM w base N lg lc jg jc sg ls js S) (hb:Below w.heap.size w w'):DiaM w' base N lg lc jg jc sg ls js S:=⟨h.lines.below hb,h.joints.below hb,h.seen.below hb,h.ne,h.bs⟩
theorem DiaM.mark (h:DiaM w base N lg lc jg jc sg ls js S) (i:Nat):DiaM (w.setCell ⟨sg,i,none⟩ (.bool true)) base N lg lc jg jc sg ls js (fun x => S x || x == i):=by
  obtain ⟨cs,hB⟩:=h.seen.blk
  have hk:KeepT 3 w (w.setCell ⟨sg,i,none⟩ (.bool true)):=KeepT.set_ hB (by decide) i _
  refine ⟨hk.ownI h.lines,hk.ownI h.joints,?_,h.ne,h.bs⟩
  rw [← bitsV_set]
  exact h.seen.set_ i _
theorem DiaM.congr {T:Nat → Bool} (h:DiaM w base N lg lc jg jc sg ls js S) (he:∀ i,i < N → S i = T i):DiaM w base N lg lc jg jc sg ls js T:=⟨h.lines,h.joints,by rw [← bitsV_congr he];exact h.seen,h.ne,h.bs⟩
theorem DiaM.off {g:Nat} (h:DiaM w base N lg lc jg jc sg ls js S) (h1:g ≠ lg) (h2:g ≠ jg) (h3:g ≠ sg) (i:Nat) (v:Value):DiaM (w.setCell ⟨g,i,none⟩ v) base N lg lc jg jc sg ls js S:=by
  refine ⟨h.lines.kept gb_set (.inr ?_),h.joints.kept gb_set (.inr ?_),h.seen.keep (K:=fun b => b ≠ g) (fun b hb => Below.heap_setCell w ⟨g,i,none⟩ _ b hb) (fun k hk => ?_),h.ne,h.bs⟩
  · show some lg ≠ some g
    intro e;injection e with e;omega
  · show some jg ≠ some g
    intro e;injection e with e;omega
  · have hk:sg = k:=Option.some.inj hk
    omega
theorem DiaM.out {g:Nat} (h:DiaM w base N lg lc jg jc sg ls js S) (hg:g < base) (i:Nat) (v:Value):DiaM (w.setCell ⟨g,i,none⟩ v) base N lg lc jg jc sg ls js S:=by
  have hb:=h.bs
  exact h.off (by omega) (by omega) (by omega) i v
theorem DiaM.mono {b':Nat} (h:DiaM w base N lg lc jg jc sg ls js S) (hb:b' ≤ base):DiaM w b' N lg lc jg jc sg ls js S:=⟨h.lines.mono hb,h.joints.mono hb,h.seen.mono hb,h.ne,by have:=h.bs;omega⟩
theorem DiaM.joint (h:DiaM w base N lg lc jg jc sg ls js S) (i:Nat) (x:Int):DiaM (w.setCell ⟨jg,i,none⟩ (.int .i64 x)) base N lg lc jg jc sg ls (js.set i x) S:=by
  refine ⟨h.lines.kept gb_set (.inr ?_),h.joints.set_ i x,?_,h.ne,h.bs⟩
  · show some lg ≠ some jg
    intro e;injection e with e;exact h.ne e
  · obtain ⟨cs,hB⟩:=h.seen.blk
    refine h.seen.keep (K:=fun b => b ≠ jg) (fun b hb => Below.heap_setCell w ⟨jg,i,none⟩ _ b hb) (fun k hk => ?_)
    have hk2:k = sg:=by injection hk with hk;exact hk.symm
    subst hk2
    intro e
    subst e
    rcases h.joints.own.2 with h2 | ⟨g,cap,cur,hv,_,hh,_⟩
    · exact absurd h2.1 (by simp)
    · simp only [Value.slice.injEq,Option.some.injEq,Addr.mk.injEq] at hv
      have:g = k:=by have:=hv.1;omega
      subst this
      unfold Blk at hB
      rw [hh] at hB
      injection hB with hB
      injection hB with _ hB
      exact absurd hB (by decide)
end

set_option maxRecDepth 100000 in
theorem unconn_any (n:Nat) (w:World) (h0:0 < n) (hn:n ≤ 1000):Calls Tryz.prog 105 #[.int .i64 n] w (GivesOwn w (List.replicate n (-1))):=by
  have hlit:=IL.lit w [-1] (by decide) (cs:=#[.int .i64 (-1)]) rfl (m:=1) rfl
  have hbl:Below w.heap.size w (w.alloc (.cells #[.int .i64 (-1)] 3)):=(Below.refl _ _).alloc (Nat.le_refl _) _
  have hre:rep [(-1:Int)] n = List.replicate n (-1):=by
    have:∀ k,rep [(-1:Int)] k = List.replicate k (-1):=by
      intro k
      induction k with
      | zero => rfl
      | succ k ih => rw [rep_succ,ih,List.replicate_succ];rfl
    exact this n
  go_enter Tryz.func105,Tryz.ntmps105
  go_wp2_with fail
  obtain ⟨w1,hw1⟩:∃ x,w.alloc (.cells #[.int .i64 (-1)] 3) = x:=⟨_,rfl⟩
  rw [hw1] at hlit hbl ⊢
  have HRP:=hide (repeat_any _ 1 1 n [-1] w1 hlit (by omega) h0 (by omega))
  rw [hre] at HRP
  have HBL:=hide hbl
  clear hlit hbl hre hw1
  refine HRP.out.mono ?_
  rintro e w2 ⟨A,m,c,rfl,ho,hb⟩
  have HO:=hide (ho.mono HBL.out.size)
  have HB:=hide (HBL.out.trans (hb.mono HBL.out.size))
  clear ho hb HRP
  go_wp2_with fail
  go_ret
  exact ⟨A,m,c,rfl,HO.out,HB.out⟩
def GivesDia (w:World) (base N lg lc:Nat) (ls js:List Int) (e:Ending) (w':World):Prop:=∃ jg jc sg,e = .returned (diaV N lg lc jg jc sg) ∧ DiaM w' base N lg lc jg jc sg ls js (fun _ => false) ∧ Below w.heap.size w w'
theorem bits_made (n:Nat):(madeCells (Value.bool false).cells (n * 1)).toList = bitsV n fun _ => false:=by
  rw [Nat.mul_one]
  show (madeCells #[Value.bool false] n).toList = _
  rw [toList_madeCells_one]
  unfold bitsV
  exact (List.eq_replicate_iff.2 ⟨by simp,fun b hb => by obtain ⟨i,_,rfl⟩:=List.mem_map.1 hb;rfl⟩).symm
theorem eUnconn:∀ args w,(callFunc 105 args).run Tryz.prog w = .ok (.enter 105 args) w:=enters (fn:=Tryz.f105) (by kernel_rfl) (by kernel_rfl) (by kernel_rfl)
set_option maxRecDepth 100000 in
set_option maxHeartbeats 4000000 in
theorem newDia_any (lg n c base:Nat) (ls:List Int) (w:World) (h:OwnI w base (some ⟨lg,0,none⟩) n c ls) (h0:0 < n) (hn:n ≤ 1000) (hbase:base ≤ lg) :
    Calls Tryz.prog 99 #[.slice (some ⟨lg,0,none⟩) n c] w (GivesDia w base n lg c ls (List.replicate n (-1))):=by
  have hlt:lg < w.heap.size:=by obtain ⟨g,e,_,hg⟩:=h.form h0;simp only [Option.some.injEq,Addr.mk.injEq] at e;omega
  obtain ⟨i0,hi0,hz0,hz1,hz2⟩:=tinfo_partsB tbool_info
  have HI0:=hide hi0
  have HZ0:=hide hz0
  have HZ1:=hide hz1
  have HZ2:=hide hz2
  have HNEW:=hide (Blk.new w 123 #[.slice none 0 0,.slice none 0 0,.slice none 0 0])
  have HB1:Hid (Below w.heap.size w (w.alloc (.cells #[.slice none 0 0,.slice none 0 0,.slice none 0 0] 123))):=hide ((Below.refl _ _).alloc (Nat.le_refl _) _)
  have HL:=hide h
  clear h hi0 hz0 hz1 hz2
  go_enter Tryz.func99,Tryz.ntmps99
  go_upto_region 1 with fail
  obtain ⟨w1,hw1⟩:∃ x,w.alloc (.cells #[.slice none 0 0,.slice none 0 0,.slice none 0 0] 123) = x:=⟨_,rfl⟩
  rw [hw1] at HNEW HB1 ⊢
  obtain ⟨b0,hb0⟩:∃ b,w.heap.size = b:=⟨_,rfl⟩
  have HB0:=hide hb0
  rw [hb0] at HNEW HB1 hlt ⊢
  replace HNEW:=hide (HNEW.out.drewN 1)
  have HB1d:Hid (Below b0 w w1.drew):=hide HB1.out.drew
  have hb0l:b0 < w1.heap.size:=Blk.lt (w:=w1) HNEW.out
  clear hw1 hb0
  have FIN:Hid (∀ (w5:World) (jg jc sg:Nat),Below b0 w w5 → Blk w5 b0 123 #[.slice none 0 0,.slice none 0 0,.slice none 0 0] → OwnI w5 (b0 + 1) (some ⟨jg,0,none⟩) n jc (List.replicate n (-1)) → OwnG 4 1 w5 (b0 + 1) (some ⟨sg,0,none⟩) n n (bitsV n fun _ => false) →
      b0 + 1 ≤ jg → b0 + 1 ≤ sg → Blk (w5.setRow b0 #[.slice (some ⟨lg,0,none⟩) n c,.slice (some ⟨jg,0,none⟩) n jc,.slice (some ⟨sg,0,none⟩) n n]) b0 123 #[.slice (some ⟨lg,0,none⟩) n c,.slice (some ⟨jg,0,none⟩) n jc,.slice (some ⟨sg,0,none⟩) n n] ∧ DiaM (w5.setRow b0 #[.slice (some ⟨lg,0,none⟩) n c,.slice (some ⟨jg,0,none⟩) n jc,.slice (some ⟨sg,0,none⟩) n n]) base n lg c jg jc sg ls (List.replicate n (-1)) (fun _ => false) ∧ Below b0 w (w5.setRow b0 #[.slice (some ⟨lg,0,none⟩) n c,.slice (some ⟨jg,0,none⟩) n jc,.slice (some ⟨sg,0,none⟩) n n])):=hide (fun w5 jg jc sg hb hblk hj hs hjg hsg => by
    have hl5:OwnI w5 base (some ⟨lg,0,none⟩) n c ls:=HL.out.below (by rw [HB0.out];exact hb)
    refine ⟨setRow_heap _ _ _ _ _ _ hblk,⟨hl5.kept gb_row (.inr ?_),(hj.kept gb_row (.inr ?_)).mono (by omega),?_,by omega,by omega⟩,Below.setRow_ hb (Nat.le_refl _) _⟩
    · show some lg ≠ some b0
      intro e;injection e with e;omega
    · show some jg ≠ some b0
      intro e;injection e with e;omega
    · refine OwnG.mono (hs.keep (K:=fun b => b ≠ b0) (fun b hb2 => setRow_other _ _ _ _ hb2) (fun k hk => ?_)) (by omega)
      have hk:sg = k:=Option.some.inj hk
      omega)
  refine wp_region_noPanic ?_
  refine wp_region_held_drew (S:=fun _ => True) (by kernel_rfl) trivial (fun hS => ?_)
  refine wpAnyH_tk 0 (v:=.slice (some ⟨lg,0,none⟩) n c) rfl (by kernel_rfl) (by kernel_rfl) (by kernel_rfl) (yi rfl fun w' hw' => gives_move (.inl rfl) rfl) hS ?_
  go_frame
  refine wpAnyH_tk 1 (v:=.slice (some ⟨lg,0,none⟩) n c) rfl (by kernel_rfl) (by kernel_rfl) (by kernel_rfl) (yi rfl fun w' hw' => gives_move (.inl rfl) rfl) hS ?_
  go_frame
  refine wpAnyH_tk 2 (v:=.int .i64 n) rfl (by kernel_rfl) (by kernel_rfl) (by kernel_rfl) (yi rfl fun w' hw' => gives_len rfl Tryz.underlying23 rfl) hS ?_
  go_frame
  refine wpAnyH_tk 4 (v:=.slice (some ⟨lg,0,none⟩) n c) rfl (by kernel_rfl) (by kernel_rfl) (by kernel_rfl) (yi rfl fun w' hw' => gives_move (.inl rfl) rfl) hS ?_
  go_frame
  refine wpAnyH_tk 5 (v:=.int .i64 n) rfl (by kernel_rfl) (by kernel_rfl) (by kernel_rfl) (yi rfl fun w' hw' => gives_len rfl Tryz.underlying23 rfl) hS ?_
  go_frame
  refine wpAnyH_2 3 6 rfl rfl (by kernel_rfl) ?_ ?_
  · refine wp_call [.int .i64 n] rfl rfl eUnconn rfl ((unconn_any n w1.drew h0 hn).mono ?_)
    rintro e w3 ⟨J,jn,jc,rfl,hj,hb3⟩
    have hjn:jn = n:=by have:=hj.len;rw [List.length_replicate] at this;exact this.symm
    subst hjn
    obtain ⟨jg,rfl,hj1,hj2⟩:=hj.form h0
    refine ⟨_,rfl,trivial,?_⟩
    go_frame
    refine wpAnyH_1 6 rfl (by kernel_rfl) ?_
    have hs3:=hb3.size
    rw [show w1.drew.heap.size = w1.heap.size from rfl] at hj1 hs3
    refine wp_make_full w3 _ _ 121 rfl w3.heap.size 4 i0 (.bool false) 1 (by kernel_rfl) HI0.out HZ0.out HZ1.out jn rfl rfl (by rw [HZ2.out];omega) (by unfold maxLen;omega) (Nat.le_refl _) ?_
    intro w4 hown hg4
    rw [bits_made] at hown
    have hb4:Below w3.heap.size w3 w4:=(Below.refl _ _).grown hg4 (Nat.le_refl _) (by intro k hk;cases hk)
    have hf:=FIN.out w4 jg jc w3.heap.size ((HB1d.out.trans (hb3.mono (by show b0 ≤ w1.heap.size;omega))).trans (hb4.mono (by omega))) ((HNEW.out.below hb3 hb0l).below hb4 (by omega)) ((hj.mono (by show b0 + 1 ≤ w1.heap.size;omega)).below hb4) (OwnG.mono ⟨hown,by omega⟩ (by omega)) (by omega) (by omega)
    refine ⟨trivial,?_⟩
    go_frame
    refine wpAnyH_tk 7 (v:=.agg #[.slice (some ⟨lg,0,none⟩) jn c,.slice (some ⟨jg,0,none⟩) jn jc,.slice (some ⟨w3.heap.size,0,none⟩) jn jn]) rfl (by kernel_rfl) (by kernel_rfl) (by kernel_rfl) (yi rfl fun w' hw' => tgives_build [(0,.slice (some ⟨lg,0,none⟩) jn c),(1,.slice (some ⟨jg,0,none⟩) jn jc),(2,.slice (some ⟨w3.heap.size,0,none⟩) jn jn)] rfl rfl (by kernel_rfl)) trivial ?_
    go_frame
    refine wpAnyH_1 8 rfl (by kernel_rfl) ?_
    refine wp_storeRow (g:=b0) rfl rfl rfl ((HNEW.out.below hb3 hb0l).below hb4 (by omega)) (by kernel_rfl) rfl (by kernel_rfl) ⟨trivial,?_⟩
    go_frame
    refine wpAnyH_done (by kernel_rfl) (noPanic_mk ?_) _
    have HF:=hide hf
    obtain ⟨sg,hsg⟩:∃ s,w3.heap.size = s:=⟨_,rfl⟩
    rw [hsg] at HF ⊢
    clear hf FIN
    generalize w4.setRow b0 #[.slice (some ⟨lg,0,none⟩) jn c,.slice (some ⟨jg,0,none⟩) jn jc,.slice (some ⟨sg,0,none⟩) jn jn] = w6 at *
    go_wp2_with fail
    refine bodyPost_ret (results_dia rfl _ rfl HF.out.1) rfl ?_
    refine ⟨jg,jc,sg,rfl,HF.out.2.1,?_⟩
    rw [HB0.out];exact HF.out.2.2
  · refine wp_make_full w1.drew _ _ 121 rfl w1.drew.heap.size 4 i0 (.bool false) 1 (by kernel_rfl) HI0.out HZ0.out HZ1.out n rfl rfl (by rw [HZ2.out];omega) (by unfold maxLen;omega) (Nat.le_refl _) ?_
    intro w3 hown hg3
    rw [bits_made] at hown
    have hb3:Below w1.drew.heap.size w1.drew w3:=(Below.refl _ _).grown hg3 (Nat.le_refl _) (by intro k hk;cases hk)
    refine ⟨trivial,?_⟩
    go_frame
    refine wpAnyH_1 3 rfl (by kernel_rfl) ?_
    have hs3:=hb3.size
    rw [show w1.drew.heap.size = w1.heap.size from rfl] at hs3
    refine wp_call [.int .i64 n] rfl rfl eUnconn rfl ((unconn_any n w3 h0 hn).mono ?_)
    rintro e w4 ⟨J,jn,jc,rfl,hj,hb4⟩
    have hjn:jn = n:=by have:=hj.len;rw [List.length_replicate] at this;exact this.symm
    subst hjn
    obtain ⟨jg,rfl,hj1,hj2⟩:=hj.form h0
    have hf:=FIN.out w4 jg jc w1.drew.heap.size ((HB1d.out.trans (hb3.mono (by show b0 ≤ w1.heap.size;omega))).trans (hb4.mono (by omega))) ((HNEW.out.below hb3 hb0l).below hb4 (by omega)) (hj.mono (by omega)) (OwnG.mono (OwnG.below ⟨hown,by omega⟩ hb4) (by show b0 + 1 ≤ w1.heap.size;omega)) (by omega) (by show b0 + 1 ≤ w1.heap.size;omega)
    refine ⟨_,rfl,trivial,?_⟩
    go_frame
    refine wpAnyH_tk 7 (v:=.agg #[.slice (some ⟨lg,0,none⟩) jn c,.slice (some ⟨jg,0,none⟩) jn jc,.slice (some ⟨w1.drew.heap.size,0,none⟩) jn jn]) rfl (by kernel_rfl) (by kernel_rfl) (by kernel_rfl) (yi rfl fun w' hw' => tgives_build [(0,.slice (some ⟨lg,0,none⟩) jn c),(1,.slice (some ⟨jg,0,none⟩) jn jc),(2,.slice (some ⟨w1.drew.heap.size,0,none⟩) jn jn)] rfl rfl (by kernel_rfl)) trivial ?_
    go_frame
    refine wpAnyH_1 8 rfl (by kernel_rfl) ?_
    refine wp_storeRow (g:=b0) rfl rfl rfl ((HNEW.out.below hb3 hb0l).below hb4 (by omega)) (by kernel_rfl) rfl (by kernel_rfl) ⟨trivial,?_⟩
    go_frame
    refine wpAnyH_done (by kernel_rfl) (noPanic_mk ?_) _
    have HF:=hide hf
    obtain ⟨sg,hsg⟩:∃ s,w1.drew.heap.size = s:=⟨_,rfl⟩
    rw [hsg] at HF ⊢
    clear hf FIN
    generalize w4.setRow b0 #[.slice (some ⟨lg,0,none⟩) jn c,.slice (some ⟨jg,0,none⟩) jn jc,.slice (some ⟨sg,0,none⟩) jn jn] = w6 at *
    go_wp2_with fail
    refine bodyPost_ret (results_dia rfl _ rfl HF.out.1) rfl ?_
    refine ⟨jg,jc,sg,rfl,HF.out.2.1,?_⟩
    rw [HB0.out];exact HF.out.2.2
end Go.Proofs.YtndgffiihbdppaaGreatDoor
namespace Go.Proofs.YtndgffiihbdppaaGreatDoor
set_option linter.unusedVariables false
set_option linter.unusedSimpArgs false
open Go.RowKit

def Tl.conJ (n k:Nat):List Int:=(List.range k).foldl (fun X i => (X.set (n + i) ((2 * n + i:Nat):Int)).set (2 * n + i) ((n + i:Nat):Int)) (List.replicate (4 * n) (-1))
theorem Tl.conJ_succ (n k:Nat):Tl.conJ n (k + 1) = ((Tl.conJ n k).set (n + k) ((2 * n + k:Nat):Int)).set (2 * n + k) ((n + k:Nat):Int):=by unfold Tl.conJ;rw [List.range_succ,List.foldl_append];rfl
def Tl.jv:Option Nat → Int
  | none => -1
  | some j => j
theorem Tl.conJ_all:(List.range 7).all (fun n => decide (Tl.conJ n n = (List.range (4 * n)).map fun i => Tl.jv (Tl.jnt2 n i))) = true:=by decide +kernel
theorem Tl.conJ_eq {n:Nat} (h6:n ≤ 6):Tl.conJ n n = (List.range (4 * n)).map fun i => Tl.jv (Tl.jnt2 n i):=by
  have h1:=Tl.conJ_all
  rw [List.all_eq_true] at h1
  exact of_decide_eq_true (h1 n (List.mem_range.2 (by omega)))
theorem Tl.conJ_getD {n:Nat} (h6:n ≤ 6) {i:Nat} (hi:i < 4 * n):(Tl.conJ n n).getD i 0 = Tl.jv (Tl.jnt2 n i):=by
  rw [Tl.conJ_eq h6]
  simp [List.getD,hi]
def Tl.ls2 (n:Nat) (a b:List Nat):List Nat:=a ++ b.map (2 * n + ·)
theorem Tl.ls2_getD {n:Nat} {a b:List Nat} (ha:a.length = 2 * n) (hb:b.length = 2 * n) {i:Nat} (hi:i < 4 * n):(Tl.ls2 n a b).getD i 0 = Tl.lin2 n a b i:=by
  unfold Tl.ls2 Tl.lin2
  by_cases h:i < 2 * n
  · rw [if_pos h]
    simp [List.getD,List.getElem?_append_left (show i < a.length by omega)]
  · rw [if_neg h]
    simp [List.getD,List.getElem?_append_right (show a.length ≤ i by omega),ha,hb,show i - 2 * n < 2 * n by omega]

set_option maxRecDepth 100000 in
set_option maxHeartbeats 4000000 in
theorem stack_p (n:Nat) (A:Option Addr) (an ac:Nat) (a:List Nat) (B:Option Addr) (bn bc:Nat) (b:List Nat) (w:World) (ha:SL w A an ac (zs a)) (hb:SL w B bn bc (zs b)) (la:a.length = 2 * n) (lb:b.length = 2 * n) (hbl:∀ x ∈ b,x < 2 * n) (h0:1 ≤ n) (h6:n ≤ 6) :
    Calls Tryz.prog 95 #[.int .i64 n,.slice A an ac,.slice B bn bc] w fun e w' => ∃ lg lc,GivesDia w w.heap.size (4 * n) lg lc (zs (Tl.ls2 n a b)) (Tl.conJ n n) e w':=by
  have han:an = 2 * n:=by have:=ha.il.len;rw [zs_length] at this;omega
  have hbn:bn = 2 * n:=by have:=hb.il.len;rw [zs_length] at this;omega
  obtain ⟨N,hN⟩:∃ N,2 * n = N:=⟨_,rfl⟩
  rw [hN] at la lb hbl han hbn
  subst han
  subst hbn
  obtain ⟨M,hM⟩:∃ M,4 * n = M:=⟨_,rfl⟩
  have HN:=hide hN
  have HM:=hide hM
  rw [hM]
  have hw2:IntKind.i64.wrap (2 * (n:Int)) = (bn:Int):=by rw [IntKind.wrap_i64];omega
  have hbn12:bn ≤ 12:=by omega
  have hbn2:2 ≤ bn:=by omega
  have HB:=hide hb
  have HLA:=hide la
  have HLB:=hide lb
  have HBL:=hide hbl
  obtain ⟨w1,hw1⟩:∃ x,w.alloc (.cells #[.slice none 0 0,.slice none 0 0,.slice none 0 0] 123) = x:=⟨_,rfl⟩
  have hnew:=Blk.new w 123 #[.slice none 0 0,.slice none 0 0,.slice none 0 0]
  have hb1:Below w.heap.size w (w.alloc (.cells #[.slice none 0 0,.slice none 0 0,.slice none 0 0] 123)):=(Below.refl _ _).alloc (Nat.le_refl _) _
  have hs1:(w.alloc (.cells #[.slice none 0 0,.slice none 0 0,.slice none 0 0] 123)).heap.size = w.heap.size + 1:=World.size_alloc ..
  rw [hw1] at hnew hb1 hs1
  have HW1:=hide hw1
  have HNEW:=hide hnew
  have HB1:=hide hb1
  have HCL:=hide (clone_any A bn ac (zs a) w1 (ha.il.below hb1) ha.nil)
  obtain ⟨i0,hi0,hz0,hz1,hz2⟩:=info_parts int_info
  have HI0:=hide hi0
  have HZ0:=hide hz0
  have HZ1:=hide hz1
  have HZ2:=hide hz2
  clear hN hM la lb hbl ha hb hnew hb1 hi0 hz0 hz1 hz2
  go_enter Tryz.func95,Tryz.ntmps95
  go_upto_region 1 with fail
  clear hw1
  go_wp2_with fail
  refine HCL.out.mono ?_
  rintro e w2 ⟨S0,q0,c0,rfl,ho,hb2⟩
  have hq0:q0 = bn:=by have:=ho.len;rw [zs_length,HLA.out] at this;exact this.symm
  subst hq0
  have HO1:Hid (OwnI w2 (w.heap.size + 1) S0 q0 c0 (zs (Tl.ls2 n a (b.take 0)))):=hide (by rw [← hs1];unfold Tl.ls2;simp;exact ho)
  have HNEW2:=hide (HNEW.out.below hb2 (by rw [hs1];omega))
  have HB2:=hide (HB1.out.trans (hb2.mono (by rw [hs1];omega)))
  have hs2:w.heap.size + 1 ≤ w2.heap.size:=by have:=hb2.size;omega
  clear ho hb2 HCL HNEW HB1 hs1 HW1
  go_wp2_with fail
  go_loopw [7,16] (fun sv iv wr => ∃ (k q c2:Nat) (S:Option Addr),sv = .slice S q c2 ∧ iv = .int .i64 k ∧ k ≤ q0 ∧ q = q0 + k ∧ Hid (OwnI wr (w.heap.size + 1) S q c2 (zs (Tl.ls2 n a (b.take k)))) ∧ Hid (Below w.heap.size w wr) ∧ Hid (Blk wr w.heap.size 123 #[.slice none 0 0,.slice none 0 0,.slice none 0 0]) ∧ w.heap.size + 1 ≤ wr.heap.size) (fun _ iv _ => q0 - (intOf iv).toNat)
  case atStart => exact ⟨0,q0,c0,S0,rfl,rfl,Nat.zero_le _,rfl,HO1,HB2,HNEW2,hs2⟩
  case round =>
    clear HO1 HB2 HNEW2 hs2
    obtain ⟨k,q,c2,S,rfl,rfl,hk,hq,HO,HBW,HNB,hsz⟩:=hrel
    by_cases hlt:k < q0
    · obtain ⟨ad,rfl,hcl⟩:=(HB.out.below HBW.out).il.at_ hlt
      rw [zs_getD] at hcl
      have hkl:k < b.length:=by rw [HLB.out];exact hlt
      have HTK:Hid (zs (Tl.ls2 n a (b.take (k + 1))) = zs (Tl.ls2 n a (b.take k)) ++ [((q0 + b.getD k 0:Nat):Int)]):=hide (by
        rw [List.take_succ_eq_append_getElem hkl,show b[k] = b.getD k 0 by simp [List.getD,hkl],show Tl.ls2 n a (b.take k ++ [b.getD k 0]) = Tl.ls2 n a (b.take k) ++ [q0 + b.getD k 0] by unfold Tl.ls2;rw [List.map_append,List.append_assoc,HN.out];rfl]
        simp [zs])
      have hx:=HBL.out (b.getD k 0) (by rw [show b.getD k 0 = b[k] by simp [List.getD,hkl]];exact List.getElem_mem _)
      obtain ⟨x,hxe⟩:∃ x,b.getD k 0 = x:=⟨_,rfl⟩
      rw [hxe] at hcl HTK hx
      have hwx:IntKind.i64.wrap ((q0:Int) + (x:Int)) = ((q0 + x:Nat):Int):=by rw [IntKind.wrap_i64];omega
      obtain ⟨y,hy⟩:∃ y,q0 + x = y:=⟨_,rfl⟩
      rw [hy] at hwx HTK
      have hq12:q ≤ 24:=by omega
      generalize zs (Tl.ls2 n a (b.take k)) = L at *
      have HQ:=hide hq
      clear hxe hkl hx hy hq
      go_wp2_with (at_builtin;refine wpList_append_int _ rfl (.tmp 20) (.tmp 25) 23 rfl (w.heap.size + 1) i0 Tryz.underlying23 HI0.out HZ0.out HZ1.out HZ2.out S q c2 L rfl (HO.out.alloc _) (some ⟨_,0,none⟩) 1 1 [(y:Int)] rfl (IL.lit _ [(y:Int)] (by simp) rfl rfl) (by omega) (by simp;omega) ?_;intro A8 c8 w8 hap)
      have hN:=hap.own
      rw [← HTK.out] at hN
      have HN2:=hide hN
      have hne:∀ j,(Value.slice S (q + 1) c2).ownBlock = some j → w.heap.size + 1 ≤ j:=fun j hj => (HO.out.lt j (by rw [ownBlock_len S q (q + 1) c2 c2];exact hj)).1
      have HB8:=hide ((HBW.out.alloc HBW.out.size (.cells #[.int .i64 (y:Int)] 3)).grown hap.grown (by simp;omega) (fun j hj => by have:=hne j hj;omega))
      have HNB8:=hide ((HNB.out.alloc (.cells #[.int .i64 (y:Int)] 3)).grown hap.grown (fun e => by have:=hne _ e.symm;omega))
      have hs8:w.heap.size + 1 ≤ w8.heap.size:=by have:=hap.grown.size;rw [World.size_alloc] at this;omega
      clear hap hN hne
      go_roundw
      case rel => exact ⟨k + 1,q + 1,c8,A8,by go_num,by go_num,by omega,by have:=HQ.out;omega,HN2,HB8,HNB8,hs8⟩
      case measure => simp [intOf];omega
    · have hkq:k = q0:=by omega
      have hqM:q = M:=by have:=HN.out;have:=HM.out;omega
      have HO2:Hid (OwnI wr (w.heap.size + 1) S q c2 (zs (Tl.ls2 n a b))):=hide (by
        have h:=HO.out
        rwa [List.take_of_length_le (by rw [HLB.out];omega)] at h)
      obtain ⟨lg,rfl,hlg1,hlg2⟩:=HO2.out.form (by omega)
      subst hqM
      have hq24:q ≤ 24:=by omega
      have HND:=hide (newDia_any lg q c2 (w.heap.size + 1) (zs (Tl.ls2 n a b)) wr HO2.out (by omega) (by omega) hlg1)
      obtain ⟨ls,hls⟩:∃ ls,zs (Tl.ls2 n a b) = ls:=⟨_,rfl⟩
      rw [hls] at HND HO2
      have HLS:=hide hls
      clear hls
      clear HO HO2 hkq hq hk
      go_wp2_with fail
      refine HND.out.mono ?_
      rintro e w3 ⟨jg,jc,sg,rfl,hd,hb3⟩
      have hJ0:List.replicate q (-1:Int) = Tl.conJ n 0:=by unfold Tl.conJ;rw [HM.out];rfl
      rw [hJ0] at hd
      have HD3:=hide hd
      have HNB3:=hide (HNB.out.below hb3 (by omega))
      have HB3:=hide (HBW.out.trans (hb3.mono (by omega)))
      have hs3:w.heap.size + 1 ≤ w3.heap.size:=by have:=hb3.size;omega
      clear hd hb3 HND HNB HBW hJ0
      have HBB:=hide (Blk.new w3 123 #[.slice (some ⟨lg,0,none⟩) q c2,.slice (some ⟨jg,0,none⟩) q jc,.slice (some ⟨sg,0,none⟩) q q])
      have HD4:=hide (HD3.out.below ((Below.refl _ _).alloc (Nat.le_refl _) (.cells #[.slice (some ⟨lg,0,none⟩) q c2,.slice (some ⟨jg,0,none⟩) q jc,.slice (some ⟨sg,0,none⟩) q q] 123)))
      have HNB4:=hide (HNB3.out.alloc (.cells #[.slice (some ⟨lg,0,none⟩) q c2,.slice (some ⟨jg,0,none⟩) q jc,.slice (some ⟨sg,0,none⟩) q q] 123))
      have HB4:=hide (HB3.out.alloc HB3.out.size (.cells #[.slice (some ⟨lg,0,none⟩) q c2,.slice (some ⟨jg,0,none⟩) q jc,.slice (some ⟨sg,0,none⟩) q q] 123))
      have hqp:0 < q:=by have:=HM.out;omega
      have hjl:jg < w3.heap.size:=by
        obtain ⟨g,e,_,h2⟩:=HD3.out.joints.form (by omega)
        simp only [Option.some.injEq,Addr.mk.injEq] at e
        omega
      go_upto_region 8 with fail
      generalize w3.alloc (.cells #[.slice (some ⟨lg,0,none⟩) q c2,.slice (some ⟨jg,0,none⟩) q jc,.slice (some ⟨sg,0,none⟩) q q] 123) = w4 at *
      generalize w3.heap.size = gb at *
      clear HNB3 HD3 HB3
      have hqn:n + n ≤ q:=by have:=HM.out;omega
      have HM4:Hid (2 * n + 2 * n = q):=hide (by have:=HM.out;omega)
      go_wp2_with fail
      go_loopw [31] (fun iv wr => ∃ k:Nat,iv = .int .i64 k ∧ k ≤ n ∧ Hid (DiaM wr (w.heap.size + 1) q lg c2 jg jc sg ls (Tl.conJ n k) fun _ => false) ∧ Hid (Below w.heap.size w wr) ∧ Hid (Blk wr w.heap.size 123 #[.slice none 0 0,.slice none 0 0,.slice none 0 0]) ∧ Hid (Blk wr gb 123 #[.slice (some ⟨lg,0,none⟩) q c2,.slice (some ⟨jg,0,none⟩) q jc,.slice (some ⟨sg,0,none⟩) q q])) (fun iv _ => n - (intOf iv).toNat)
      case atStart => exact ⟨0,rfl,Nat.zero_le _,HD4,HB4,HNB4,HBB⟩
      case round =>
        clear HD4 HB4 HNB4 HBB
        obtain ⟨k,rfl,hk,HD,HBW,HNB,HBB⟩:=hrel
        by_cases hkn:k < n
        · have hc1:=HBB.out.cell 1
          simp at hc1
          obtain ⟨i1,hi1⟩:∃ i,n + k = i:=⟨_,rfl⟩
          obtain ⟨i2,hi2⟩:∃ i,q0 + k = i:=⟨_,rfl⟩
          have hv1:IntKind.i64.wrap ((n:Int) + (k:Int)) = (i1:Int):=by rw [IntKind.wrap_i64];omega
          have hv2:IntKind.i64.wrap ((q0:Int) + (k:Int)) = (i2:Int):=by rw [IntKind.wrap_i64];omega
          have HCON:=hide (connect_any jg q jc (w.heap.size + 1) i1 i2 (Tl.conJ n k) wr HD.out.joints (by omega) (by have:=HN.out;have:=HM4.out;omega) (by omega))
          have HD2:=hide ((HD.out.joint i1 (i2:Int)).joint i2 (i1:Int))
          have HSJ:Hid (((Tl.conJ n k).set i1 (i2:Int)).set i2 (i1:Int) = Tl.conJ n (k + 1)):=hide (by rw [Tl.conJ_succ,HN.out,hi1,hi2])
          rw [HSJ.out] at HD2
          have hjb:=HD.out.bs.2.1
          have HB2:=hide ((HBW.out.setCell (p:=⟨jg,i1,none⟩) (show w.heap.size ≤ jg by omega) (.int .i64 (i2:Int))).setCell (p:=⟨jg,i2,none⟩) (show w.heap.size ≤ jg by omega) (.int .i64 (i1:Int)))
          have HNB2:=hide ((HNB.out.far (p:=⟨jg,i1,none⟩) (show w.heap.size ≠ jg by omega) (.int .i64 (i2:Int))).far (p:=⟨jg,i2,none⟩) (show w.heap.size ≠ jg by omega) (.int .i64 (i1:Int)))
          have HBB2:=hide ((HBB.out.far (p:=⟨jg,i1,none⟩) (show gb ≠ jg by omega) (.int .i64 (i2:Int))).far (p:=⟨jg,i2,none⟩) (show gb ≠ jg by omega) (.int .i64 (i1:Int)))
          clear hi1 hi2 hjb HD HBW HNB HBB HSJ
          go_wp2_with fail
          refine HCON.out.mono ?_
          rintro e w5 ⟨rfl,hw5⟩
          rw [← hw5] at HD2 HB2 HNB2 HBB2
          clear hw5 hc1 HCON
          go_wp2_with fail
          go_roundw
          case rel => exact ⟨k + 1,by go_num,by omega,HD2,HB2,HNB2,HBB2⟩
          case measure => simp [intOf];omega
        · have hkE:k = n:=by omega
          subst hkE
          have hc0:=HBB.out.cell 0
          have hc1:=HBB.out.cell 1
          have hc2:=HBB.out.cell 2
          simp at hc0 hc1 hc2
          have hr0:=HNB.out.cell 0
          have hr1:=HNB.out.cell 1
          have hr2:=HNB.out.cell 2
          have hf0:=HNB.out.frozen 0
          have hf1:=HNB.out.frozen 1
          have hf2:=HNB.out.frozen 2
          simp at hr0 hr1 hr2
          have HDF:=hide (((HD.out.out (g:=w.heap.size) (by omega) 0 (.slice (some ⟨lg,0,none⟩) q c2)).out (g:=w.heap.size) (by omega) 1 (.slice (some ⟨jg,0,none⟩) q jc)).out (g:=w.heap.size) (by omega) 2 (.slice (some ⟨sg,0,none⟩) q q))
          have HBF:=hide (((HNB.out.set_ 0 (.slice (some ⟨lg,0,none⟩) q c2)).set_ 1 (.slice (some ⟨jg,0,none⟩) q jc)).set_ 2 (.slice (some ⟨sg,0,none⟩) q q))
          have HBB2:=hide (((HBW.out.setCell (p:=⟨w.heap.size,0,none⟩) (Nat.le_refl _) (.slice (some ⟨lg,0,none⟩) q c2)).setCell (p:=⟨w.heap.size,1,none⟩) (Nat.le_refl _) (.slice (some ⟨jg,0,none⟩) q jc)).setCell (p:=⟨w.heap.size,2,none⟩) (Nat.le_refl _) (.slice (some ⟨sg,0,none⟩) q q))
          clear HD HBW HNB HBB
          go_wp2_with fail
          refine bodyPost_ret (results_dia rfl _ rfl HBF.out) rfl ?_
          rw [HLS.out]
          exact ⟨lg,c2,jg,jc,sg,rfl,HDF.out.mono (by omega),HBB2.out⟩
end Go.Proofs.YtndgffiihbdppaaGreatDoor
