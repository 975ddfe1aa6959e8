/- Several texts in one. -/
import Derived.Test.YtndgffiihbdppaaGreatDoorBase1
import Derived.Test.YtndgffiihbdppaaGreatDoorPart23
import Derived.Test.YtndgffiihbdppaaGreatDoorPart1
import Derived.DeepKeys4
namespace Go.Proofs.YtndgffiihbdppaaGreatDoor
set_option linter.unusedVariables false
set_option linter.unusedSimpArgs false
open Go.RowKit Go.Maps

/-! ### keys -/
def kyA (d:List Nat):Array Value:=((List.range 12).map fun j:Nat => Value.int .i64 ((d.getD j 0:Nat):Int)).toArray
def ky (d:List Nat):Value:=.agg (kyA d)
theorem kyA_size (d:List Nat):(kyA d).size = 12:=by simp [kyA]
theorem kyA_get (d:List Nat) (j:Nat) (hj:j < 12):(kyA d)[j]? = some (.int .i64 ((d.getD j 0:Nat):Int)):=by
  simp [kyA,hj]
theorem kyA_one (d:List Nat):(kyA d).all (·.oneCell') = true:=by simp [kyA,Value.oneCell']
theorem ky_inj {d e:List Nat} (hl:d.length = e.length) (h12:d.length ≤ 12) (h:ky d = ky e):d = e:=by
  unfold ky at h
  injection h with h
  refine List.ext_getElem hl fun j h1 h2 => ?_
  have hj:j < 12:=by omega
  have h3:=congrArg (fun a:Array Value => a[j]?) h
  simp only [kyA_get _ j hj,Option.some.injEq,Value.int.injEq,true_and] at h3
  have h4:d.getD j 0 = e.getD j 0:=by omega
  simpa [List.getD,h1,h2] using h4
theorem mapM_tot {α β:Type} {f:α → Option β} {g:α → β}:∀ (l:List α),(∀ x ∈ l,f x = some (g x)) → l.mapM f = some (l.map g)
  | [],_ => by simp
  | x :: l,h => by simp [h x (by simp),mapM_tot l fun y hy => h y (by simp [hy])]
theorem rowK:(113:TypeId) < Tryz.prog.types.size:=of_decide_eq_true (by kernel_rfl)
theorem laidOutK:laidOutB Tryz.prog = true:=by kernel_rfl
theorem keyAtK:Tryz.prog.keyTypeAt 2 113 = true:=by kernel_rfl
theorem wideK:(match Tryz.prog.underlying 113 with | some (.array _ _) | some (.struct _) => true | _ => false) = true:=by rw [Tryz.underlying113]
set_option maxRecDepth 100000 in
theorem keyK:Keyed Tryz.prog 113:=Keyed.of_law (deep_law_laid (P:=Tryz.prog) laidOutK (m:=2) (by omega) (k:=113) rowK keyAtK wideK)
theorem cellsK:Tryz.prog.cellsOf 113 = 12:=by kernel_rfl
theorem cellsI:Tryz.prog.cellsOf 3 = 1:=by kernel_rfl
theorem keyTypeK:Tryz.prog.keyType 113 = true:=by kernel_rfl
theorem keyE {d:List Nat} (hp:∀ j,d.getD j 0 ≤ 1000):∃ kl,keyOf Tryz.prog 113 (ky d) = some kl:=by
  have hl:∀ dp i,i ∈ List.range 12 → Tryz.prog.keyLits (dp + 1) 3 (((kyA d).toList.drop (i * Tryz.prog.cellsOf 3)).take (Tryz.prog.cellsOf 3)) = some [.int .i64 ((d.getD i 0:Nat):Int)]:=by
    intro dp i hi
    have hi9:i < 12:=by simpa using hi
    have hx:=hp i
    have e:((kyA d).toList.drop (i * Tryz.prog.cellsOf 3)).take (Tryz.prog.cellsOf 3) = [Value.int .i64 ((d.getD i 0:Nat):Int)]:=by
      rw [cellsI,Nat.mul_one]
      have hg:=kyA_get d i hi9
      have hs:=kyA_size d
      rw [List.take_one]
      simp only [List.head?_drop,Array.getElem?_toList,hg,Option.toList_some]
    rw [e]
    generalize d.getD i 0 = x at hx
    have hw:(Lit.int .i64 (x:Int)).wf = true:=by
      simp [Lit.wf,IntKind.min,IntKind.max,IntKind.signed,IntKind.bits]
      omega
    unfold Program.keyLits
    simp [Tryz.underlying3,hw]
  have hlen:(kyA d).toList.length = Tryz.prog.cellsOf 113:=by rw [cellsK];exact kyA_size d
  have hf:(Value.agg (kyA d)).formed Tryz.prog 113 = true:=by
    simp [Value.formed,Tryz.underlying113,kyA_size,cellsK]
  obtain ⟨dp,hd⟩:∃ dp,Tryz.prog.types.size = dp + 1:=⟨Tryz.prog.types.size - 1,by have h69:113 < Tryz.prog.types.size:=rowK;omega⟩
  refine ⟨.string (keyBytes (((List.range 12).map fun i => [Lit.int .i64 ((d.getD i 0:Nat):Int)]).flatten)),?_⟩
  unfold keyOf ky
  rw [Tryz.underlying113]
  simp only [keyTypeK,hf,Bool.and_self,if_true,Value.cells]
  unfold Program.keyLits
  simp only [Tryz.underlying113,hlen,if_true]
  rw [hd,mapM_tot (List.range 12) (hl dp)]
  rfl

/-! ### polynomials as values, sums of matchings as maps -/
def JQ (w:World) (K:Nat) (v:Value) (q:LP):Prop:=∃ A n c,v = PV (LP.canon q).1 A n c ∧ SL w A n c (LP.canon q).2 ∧ (0 < n → ∀ ad,A = some ad → K ≤ ad.block)
theorem JQ.below {w w':World} {K:Nat} {v:Value} {q:LP} (h:JQ w K v q) (hb:Below w.heap.size w w'):JQ w' K v q:=by
  obtain ⟨A,n,c,e,h1,h2⟩:=h
  exact ⟨A,n,c,e,h1.below hb,h2⟩
theorem JQ.mono {w:World} {K K':Nat} {v:Value} {q:LP} (h:JQ w K v q) (hk:K' ≤ K):JQ w K' v q:=by
  obtain ⟨A,n,c,e,h1,h2⟩:=h
  exact ⟨A,n,c,e,h1,fun hn ad ea => Nat.le_trans hk (h2 hn ad ea)⟩
theorem JQ.zero (w:World) (K:Nat):JQ w K (PV 0 none 0 0) 0:=⟨none,0,0,by rw [LP.canon_zero],by rw [LP.canon_zero];exact SL.nil_ w,fun h => absurd h (by omega)⟩
theorem JQ.set_ {w:World} {K g i:Nat} {v u:Value} {q:LP} (h:JQ w K v q) (hg:g < K):JQ (w.setCell ⟨g,i,none⟩ u) K v q:=by
  obtain ⟨A,n,c,e,h1,h2⟩:=h
  exact ⟨A,n,c,e,h1.setCell (fun hn ad ea => by have:=h2 hn ad ea;omega) i u,h2⟩
theorem JQ.kept {w w':World} {K g:Nat} {v:Value} {q:LP} (h:JQ w K v q) (hg:w.grownBy w' (some g)) (hm:∀ ad:Addr,ad.block = g → w.cell? ad = none):JQ w' K v q:=by
  obtain ⟨A,n,c,e,h1,h2⟩:=h
  refine ⟨A,n,c,e,⟨⟨h1.il.len,h1.il.small,fun hn => ?_⟩,h1.nil,h1.cap⟩,h2⟩
  obtain ⟨ad,ea,hl,hc⟩:=h1.il.mem hn
  have hne:ad.block ≠ g:=by
    intro e2
    have h3:=hc 0 hn
    rw [hm _ (by rw [block_of_add];exact e2)] at h3
    cases h3
  refine ⟨ad,ea,Nat.lt_of_lt_of_le hl hg.size,fun j hj => ?_⟩
  rw [← hc j hj]
  unfold World.cell?
  rw [block_of_add,hg.block ad.block hl (fun e2 => by injection e2 with e2;exact hne e2)]
inductive Ents (w:World) (K:Nat):List (Value × Value) → Cmb → Prop
  | nil:Ents w K [] []
  | cons (d:List Nat) (v:Value) (q:LP) (T:List (Value × Value)) (o:Cmb):JQ w K v q → Ents w K T o → Ents w K ((ky d,v) :: T) ((d,q) :: o)
theorem Ents.inv {w:World} {K:Nat} {x:Value × Value} {T:List (Value × Value)} {o:Cmb} (h:Ents w K (x :: T) o):∃ d q o',o = (d,q) :: o' ∧ x.1 = ky d ∧ JQ w K x.2 q ∧ Ents w K T o':=by
  cases h with
  | cons d v q _ o' h1 h2 => exact ⟨d,q,o',rfl,rfl,h1,h2⟩
theorem Ents.map {w w':World} {K K':Nat} {T:List (Value × Value)} {o:Cmb} (h:Ents w K T o) (hf:∀ v q,JQ w K v q → JQ w' K' v q):Ents w' K' T o:=by
  induction h with
  | nil => exact .nil
  | cons d v q T o h1 _ ih => exact .cons d v q T o (hf _ _ h1) ih
theorem Ents.perm {w:World} {K:Nat} {T T':List (Value × Value)} (hp:T.Perm T'):∀ {o:Cmb},Ents w K T o → ∃ o',o.Perm o' ∧ Ents w K T' o':=by
  induction hp with
  | nil => exact fun {o} h => ⟨o,List.Perm.refl _,h⟩
  | cons x _ ih =>
    intro o h
    obtain ⟨d,q,o1,rfl,e,h1,h2⟩:=h.inv
    obtain ⟨o2,hp2,h3⟩:=ih h2
    obtain ⟨x1,x2⟩:=x
    have e:x1 = ky d:=e
    subst e
    exact ⟨(d,q) :: o2,hp2.cons _,.cons d _ q _ _ h1 h3⟩
  | swap x y l =>
    intro o h
    obtain ⟨d,q,o1,rfl,e,h1,h2⟩:=h.inv
    obtain ⟨d',q',o2,rfl,e',h1',h2'⟩:=h2.inv
    obtain ⟨x1,x2⟩:=x
    obtain ⟨y1,y2⟩:=y
    have e:y1 = ky d:=e
    have e':x1 = ky d':=e'
    subst e;subst e'
    exact ⟨(d',q') :: (d,q) :: o2,List.Perm.swap _ _ _,.cons d' _ q' _ _ h1' (.cons d _ q _ _ h1 h2')⟩
  | trans _ _ i1 i2 =>
    intro o h
    obtain ⟨o1,p1,h1⟩:=i1 h
    obtain ⟨o2,p2,h2⟩:=i2 h1
    exact ⟨o2,p1.trans p2,h2⟩
theorem Ents.length {w:World} {K:Nat} {T:List (Value × Value)} {o:Cmb} (h:Ents w K T o):T.length = o.length:=by
  induction h with
  | nil => rfl
  | cons d v q T o _ _ ih => rw [List.length_cons,List.length_cons,ih]
def Same (N:Nat) (o:Cmb):Prop:=∀ p ∈ o,p.1.length = N
theorem Ents.look {w:World} {K N:Nat} {T:List (Value × Value)} {o:Cmb} (h:Ents w K T o) (hs:Same N o) (hN:N ≤ 12) {d:List Nat} (hd:d.length = N):JQ w K ((lookW T (ky d)).getD (PV 0 none 0 0)) (getO o d):=by
  induction h with
  | nil => exact JQ.zero w K
  | cons e v q T o h1 _ ih =>
    unfold lookW getO
    have hl:e.length = N:=hs (e,q) List.mem_cons_self
    by_cases h:e = d
    · subst h
      rw [if_pos rfl,if_pos rfl]
      exact h1
    · rw [if_neg (fun e2 => h (ky_inj (hl.trans hd.symm) (by omega) e2)),if_neg h]
      exact ih fun p hp => hs p (List.mem_cons_of_mem _ hp)
theorem Ents.put {w:World} {K N:Nat} {T:List (Value × Value)} {o:Cmb} (h:Ents w K T o) (hs:Same N o) (hN:N ≤ 12) {d:List Nat} (hd:d.length = N) {v:Value} {q:LP} (hq:JQ w K v q):Ents w K (putW T (ky d) v) (putO o d q):=by
  induction h with
  | nil => exact .cons d v q [] [] hq .nil
  | cons e u p T o h1 h2 ih =>
    unfold putW putO
    have hl:e.length = N:=hs (e,p) List.mem_cons_self
    by_cases h:e = d
    · subst h
      rw [if_pos rfl,if_pos rfl]
      exact .cons e v q T o hq h2
    · rw [if_neg (fun e2 => h (ky_inj (hl.trans hd.symm) (by omega) e2)),if_neg h]
      exact .cons e u p _ _ h1 (ih fun r hr => hs r (List.mem_cons_of_mem _ hr))
theorem Ents.mem {w:World} {K:Nat} {T:List (Value × Value)} {o:Cmb} (h:Ents w K T o):∀ p ∈ T,∃ d ∈ o.map (·.1),p.1 = ky d:=by
  induction h with
  | nil => intro p hp;cases hp
  | cons d v q T o _ _ ih =>
    intro p hp
    rcases List.mem_cons.1 hp with e | hp
    · subst e
      exact ⟨d,List.mem_cons_self,rfl⟩
    · obtain ⟨d2,h1,h2⟩:=ih p hp
      exact ⟨d2,List.mem_cons_of_mem _ h1,h2⟩

structure CmB (n:Nat) (w:World) (b K:Nat) (o:Cmb):Prop where
  mp:∃ T,MapV Tryz.prog 113 w b T ∧ Ents w K T o
  keys:∀ p ∈ o,p.1 ∈ Tl.plan n
  far:K ≤ b
theorem plan_small {n:Nat} (h1:1 ≤ n) (h6:n ≤ 6) {d:List Nat} (hd:d ∈ Tl.plan n):d.length = 2 * n ∧ ∀ j,d.getD j 0 ≤ 1000:=by
  have hl:=(Tl.unit_r h6 hd).2
  refine ⟨hl,fun j => ?_⟩
  by_cases hj:j < d.length
  · have h4:=(Tl.plan_one h1 h6 hd).1 (d[j]) (List.getElem_mem hj)
    simp only [List.getD,List.getElem?_eq_getElem hj,Option.getD_some]
    exact h4
  · simp only [List.getD,List.getElem?_eq_none (Nat.not_lt.1 hj),Option.getD_none]
    omega
theorem CmB.below {n:Nat} {w w':World} {b K:Nat} {o:Cmb} (h:CmB n w b K o) (hb:Below w.heap.size w w'):CmB n w' b K o:=by
  obtain ⟨T,h1,h2⟩:=h.mp
  exact ⟨⟨T,h1.below hb,h2.map fun v q hq => hq.below hb⟩,h.keys,h.far⟩
theorem CmB.lt {n:Nat} {w:World} {b K:Nat} {o:Cmb} (h:CmB n w b K o):b < w.heap.size:=by
  obtain ⟨T,h1,_⟩:=h.mp
  exact h1.lt
theorem CmB.mono {n:Nat} {w:World} {b K K':Nat} {o:Cmb} (h:CmB n w b K o) (hk:K' ≤ K):CmB n w b K' o:=by
  obtain ⟨T,h1,h2⟩:=h.mp
  exact ⟨⟨T,h1,h2.map fun v q hq => hq.mono hk⟩,h.keys,Nat.le_trans hk h.far⟩
theorem CmB.set_ {n:Nat} {w:World} {b K g i:Nat} {u:Value} {o:Cmb} (h:CmB n w b K o) (hg:g < K):CmB n (w.setCell ⟨g,i,none⟩ u) b K o:=by
  obtain ⟨T,h1,h2⟩:=h.mp
  exact ⟨⟨T,h1.setCell (by have:=h.far;show b ≠ g;omega) u,h2.map fun v q hq => hq.set_ hg⟩,h.keys,h.far⟩
theorem MapV.nocell {P:Program} {k:TypeId} {w:World} {b:Nat} {T:List (Value × Value)} (h:MapV P k w b T) (ad:Addr) (e:ad.block = b):w.cell? ad = none:=by
  obtain ⟨D,⟨es,clock,hbl,_⟩,_⟩:=h.dict.own
  unfold World.cell?
  rw [e,hbl]
theorem CmB.kept {n:Nat} {w w':World} {b K g:Nat} {o:Cmb} (h:CmB n w b K o) (hg:w.grownBy w' (some g)) (hne:g ≠ b) (hm:∀ ad:Addr,ad.block = g → w.cell? ad = none):CmB n w' b K o:=by
  obtain ⟨T,h1,h2⟩:=h.mp
  exact ⟨⟨T,h1.kept hg (by intro e;injection e with e;exact hne e.symm),h2.map fun v q hq => hq.kept hg hm⟩,h.keys,h.far⟩
theorem CmB.made (n:Nat) (w:World):CmB n (w.alloc (.map #[] 0)) w.heap.size w.heap.size []:=⟨⟨[],MapV.made w _ _,.nil⟩,fun p hp => (by cases hp),Nat.le_refl _⟩
end Go.Proofs.YtndgffiihbdppaaGreatDoor
namespace Go.Proofs.YtndgffiihbdppaaGreatDoor
set_option linter.unusedVariables false
set_option linter.unusedSimpArgs false
open Go.RowKit

def GivesJ (w:World) (q:LP) (e:Ending) (w':World):Prop:=∃ v,e = .returned v ∧ JQ w' w.heap.size v q ∧ Below w.heap.size w w'
set_option maxRecDepth 100000 in
set_option maxHeartbeats 2000000 in
theorem jterm_any (c x:Int) (w:World) (hc:c = 1 ∨ c = -1):Calls Tryz.prog 48 #[.int .i64 c,.int .i64 x] w (GivesJ w (LP.term x c)):=by
  have hcan:=LP.canon_term x c hc
  rw [LP.of_one] at hcan
  have HC:=hide hcan
  clear hcan hc
  go_enter Tryz.func48,Tryz.ntmps48
  go_wp2_with fail
  refine bodyPost_ret (results_poly rfl _ rfl ((Blk.new w 26 #[.int .i64 x,.slice (some ⟨w.heap.size + 1,0,none⟩) 1 1]).alloc _)) rfl ?_
  have hs:=SL.lit (w.alloc (.cells #[.int .i64 x,.slice (some ⟨w.heap.size + 1,0,none⟩) 1 1] 26)) [c] (by simp) (cs:=#[.int .i64 c]) rfl (m:=1) rfl
  rw [World.size_alloc] at hs
  refine ⟨_,rfl,⟨some ⟨w.heap.size + 1,0,none⟩,1,1,?_,?_,fun _ ad e => ?_⟩,((Below.refl _ _).alloc (Nat.le_refl _) _).alloc (by rw [World.size_alloc];omega) _⟩
  · rw [HC.out]
  · rw [HC.out];exact hs
  · injection e with e
    subst e
    show w.heap.size ≤ w.heap.size + 1
    omega
set_option maxRecDepth 100000 in
set_option maxHeartbeats 2000000 in
theorem jtimes_any (F:PolyC) {x y:LP} (hx:LP.Rt x) (hy:LP.Rt y) (hz:LP.Rt (x * y)) {K K':Nat} {u v:Value} (w:World) (hu:JQ w K u x) (hv:JQ w K' v y):Calls Tryz.prog 85 #[u,v] w (GivesJ w (x * y)):=by
  obtain ⟨A,n,c,rfl,ha,_⟩:=hu
  obtain ⟨B,m,d,rfl,hb,_⟩:=hv
  have wa:=hx.wf
  have wb:=hy.wf
  have hr:=LP.mulR_canon hx hy hz
  unfold GivesJ JQ
  generalize LP.canon (x * y) = rz at hr ⊢
  obtain ⟨lr,cr⟩:=rz
  have h1:Below w.heap.size w (((w.alloc (.cells #[.int .i64 (LP.canon x).1,.slice A n c] 26)).alloc (.cells #[.int .i64 (LP.canon y).1,.slice B m d] 26)).alloc (.cells #[.int .i64 0,.slice none 0 0] 26)):=(((Below.refl _ _).alloc (Nat.le_refl _) _).alloc (by simp) _).alloc (by simp;omega) _
  have HB0:=hide h1
  have he:=F.mul (LP.canon x).1 A n c (LP.canon x).2 (LP.canon y).1 B m d (LP.canon y).2 _ (ha.below h1) (hb.below h1) wa wb
  rw [hr] at he
  have HE:=hide he
  clear ha hb wa wb F h1 he hr hx hy hz
  generalize (LP.canon x).1 = la at *
  generalize (LP.canon y).1 = lb at *
  go_enter Tryz.func85,Tryz.ntmps85
  go_wp2_with fail
  refine HE.out.mono ?_
  rintro e w1 ⟨R,rn,rc,rfl,hs,hnw,hb⟩
  have hbk:Blk w1 (w.heap.size + 1 + 1) 26 #[.int .i64 0,.slice none 0 0]:=by
    have h:=Blk.new ((w.alloc (.cells #[.int .i64 la,.slice A n c] 26)).alloc (.cells #[.int .i64 lb,.slice B m d] 26)) 26 #[.int .i64 0,.slice none 0 0]
    have h:=h.below hb (by simp)
    simpa using h
  have hc0:=hbk.cell 0
  have hc1:=hbk.cell 1
  have hf0:=hbk.frozen 0
  have hf1:=hbk.frozen 1
  simp at hc0 hc1
  have HB1:=hide (HB0.out.trans (hb.mono HB0.out.size))
  have hsz:w.heap.size + 1 + 1 < w1.heap.size:=by have:=hb.size;simp at this;omega
  have hne:0 < rn → ∀ ad,R = some ad → w.heap.size + 1 + 1 + 1 ≤ ad.block:=fun h ad e => by
    have:=hnw h ad e
    simp at this
    omega
  have HNE:=hide hne
  have HS:=hide hs
  have HBK:=hide hbk
  clear hb hs HB0 HE hbk hnw hne
  go_wp2_with fail
  refine bodyPost_ret (results_poly rfl _ rfl (((HBK.out.set_ 0 (.int .i64 lr)).set_ 1 (.slice R rn rc)).alloc _)) rfl ?_
  refine ⟨_,rfl,⟨R,rn,rc,rfl,?_,fun h ad e => by have:=HNE.out h ad e;omega⟩,?_⟩
  · exact ((HS.out.setCell (fun h ad e => by have:=HNE.out h ad e;omega) 0 _).setCell (fun h ad e => by have:=HNE.out h ad e;omega) 1 _).below ((Below.refl _ _).alloc (Nat.le_refl _) _)
  · exact ((HB1.out.setCell (p:=⟨w.heap.size + 1 + 1,0,none⟩) (by show w.heap.size ≤ w.heap.size + 1 + 1;omega) _).setCell (p:=⟨w.heap.size + 1 + 1,1,none⟩) (by show w.heap.size ≤ w.heap.size + 1 + 1;omega) _).alloc (by simpa using HB1.out.size) _
set_option maxRecDepth 100000 in
set_option maxHeartbeats 2000000 in
theorem jplus_any (F:PolyC) {x y:LP} (hx:LP.Rt x) (hy:LP.Rt y) (hz:LP.Rt (x + y)) {K K':Nat} {u v:Value} (w:World) (hu:JQ w K u x) (hv:JQ w K' v y):Calls Tryz.prog 89 #[u,v] w (GivesJ w (x + y)):=by
  obtain ⟨A,n,c,rfl,ha,_⟩:=hu
  obtain ⟨B,m,d,rfl,hb,_⟩:=hv
  have wa:=hx.wf
  have wb:=hy.wf
  have hr:=LP.addR_canon hx hy hz
  unfold GivesJ JQ
  generalize LP.canon (x + y) = rz at hr ⊢
  obtain ⟨lr,cr⟩:=rz
  have h1:Below w.heap.size w (((w.alloc (.cells #[.int .i64 (LP.canon x).1,.slice A n c] 26)).alloc (.cells #[.int .i64 (LP.canon y).1,.slice B m d] 26)).alloc (.cells #[.int .i64 0,.slice none 0 0] 26)):=(((Below.refl _ _).alloc (Nat.le_refl _) _).alloc (by simp) _).alloc (by simp;omega) _
  have HB0:=hide h1
  have he:=F.add (LP.canon x).1 A n c (LP.canon x).2 (LP.canon y).1 B m d (LP.canon y).2 _ (ha.below h1) (hb.below h1) wa wb
  rw [hr] at he
  have HE:=hide he
  clear ha hb wa wb F h1 he hr hx hy hz
  generalize (LP.canon x).1 = la at *
  generalize (LP.canon y).1 = lb at *
  go_enter Tryz.func89,Tryz.ntmps89
  go_wp2_with fail
  refine HE.out.mono ?_
  rintro e w1 ⟨R,rn,rc,rfl,hs,hnw,hb⟩
  have hbk:Blk w1 (w.heap.size + 1 + 1) 26 #[.int .i64 0,.slice none 0 0]:=by
    have h:=Blk.new ((w.alloc (.cells #[.int .i64 la,.slice A n c] 26)).alloc (.cells #[.int .i64 lb,.slice B m d] 26)) 26 #[.int .i64 0,.slice none 0 0]
    have h:=h.below hb (by simp)
    simpa using h
  have hc0:=hbk.cell 0
  have hc1:=hbk.cell 1
  have hf0:=hbk.frozen 0
  have hf1:=hbk.frozen 1
  simp at hc0 hc1
  have HB1:=hide (HB0.out.trans (hb.mono HB0.out.size))
  have hsz:w.heap.size + 1 + 1 < w1.heap.size:=by have:=hb.size;simp at this;omega
  have hne:0 < rn → ∀ ad,R = some ad → w.heap.size + 1 + 1 + 1 ≤ ad.block:=fun h ad e => by
    have:=hnw h ad e
    simp at this
    omega
  have HNE:=hide hne
  have HS:=hide hs
  have HBK:=hide hbk
  clear hb hs HB0 HE hbk hnw hne
  go_wp2_with fail
  refine bodyPost_ret (results_poly rfl _ rfl (((HBK.out.set_ 0 (.int .i64 lr)).set_ 1 (.slice R rn rc)).alloc _)) rfl ?_
  refine ⟨_,rfl,⟨R,rn,rc,rfl,?_,fun h ad e => by have:=HNE.out h ad e;omega⟩,?_⟩
  · exact ((HS.out.setCell (fun h ad e => by have:=HNE.out h ad e;omega) 0 _).setCell (fun h ad e => by have:=HNE.out h ad e;omega) 1 _).below ((Below.refl _ _).alloc (Nat.le_refl _) _)
  · exact ((HB1.out.setCell (p:=⟨w.heap.size + 1 + 1,0,none⟩) (by show w.heap.size ≤ w.heap.size + 1 + 1;omega) _).setCell (p:=⟨w.heap.size + 1 + 1,1,none⟩) (by show w.heap.size ≤ w.heap.size + 1 + 1;omega) _).alloc (by simpa using HB1.out.size) _
theorem results_pp {fn:Func} {t u:Tmp} {b c:Nat} {v0 v1 u0 u1:Value} {w:World} (h:fn.results = #[.cell t 26,.cell u 26]) (tmps:Array Value) (ht:tmps.getD t undef = .pointer (some ⟨b,0,none⟩)) (hu:tmps.getD u undef = .pointer (some ⟨c,0,none⟩)) (hb:Blk w b 26 #[v0,v1]) (hc:Blk w c 26 #[u0,u1]) :
    (results fn tmps).run Tryz.prog w = .ok (.tuple #[.agg #[v0,v1],.agg #[u0,u1]]) w:=by
  have h0:=hb.cell 0
  have h1:=hb.cell 1
  have h2:=hc.cell 0
  have h3:=hc.cell 1
  simp at h0 h1 h2 h3
  have ht2:tmps[t]?.getD undef = .pointer (some ⟨b,0,none⟩):=by simpa using ht
  have hu2:tmps[u]?.getD undef = .pointer (some ⟨c,0,none⟩):=by simpa using hu
  simp [results,h,ht2,hu2,go_sem,h0,h1,h2,h3,Result.andThen]
def GivesJJ (w:World) (p q:LP) (e:Ending) (w':World):Prop:=∃ v u,e = .returned (.tuple #[v,u]) ∧ JQ w' w.heap.size v p ∧ JQ w' w.heap.size u q ∧ Below w.heap.size w w'
set_option maxRecDepth 100000 in
set_option maxHeartbeats 2000000 in
theorem jweights_any (x:Int) (w:World):Calls Tryz.prog 83 #[.int .i64 x] w (GivesJJ w (LP.term (sgx x) 1) (LP.term (-sgx x) 1)):=by
  have HT:=hide (fun (e:Int) (w:World) => jterm_any 1 e w (.inl rfl))
  have hw0:Below w.heap.size w ((w.alloc (.cells #[.int .i64 0,.slice none 0 0] 26)).alloc (.cells #[.int .i64 0,.slice none 0 0] 26)):=((Below.refl _ _).alloc (Nat.le_refl _) _).alloc (by simp) _
  have hk0:Blk ((w.alloc (.cells #[.int .i64 0,.slice none 0 0] 26)).alloc (.cells #[.int .i64 0,.slice none 0 0] 26)) w.heap.size 26 #[.int .i64 0,.slice none 0 0]:=(Blk.new w _ _).alloc _
  have hk1:Blk ((w.alloc (.cells #[.int .i64 0,.slice none 0 0] 26)).alloc (.cells #[.int .i64 0,.slice none 0 0] 26)) (w.heap.size + 1) 26 #[.int .i64 0,.slice none 0 0]:=by
    have:=Blk.new (w.alloc (.cells #[.int .i64 0,.slice none 0 0] 26)) 26 #[.int .i64 0,.slice none 0 0]
    rwa [World.size_alloc] at this
  have hz0:((w.alloc (.cells #[.int .i64 0,.slice none 0 0] 26)).alloc (.cells #[.int .i64 0,.slice none 0 0] 26)).heap.size = w.heap.size + 2:=by simp
  have HW0:=hide hw0
  have HK0:=hide hk0
  have HK1:=hide hk1
  have HZ0:=hide hz0
  clear hw0 hk0 hk1 hz0
  by_cases hx:0 < x
  · have f:decide ((x:Int) > 0) = true:=by simpa using hx
    have hsx:sgx x = 1:=by unfold sgx;rw [if_pos hx]
    rw [hsx]
    clear hx hsx
    go_enter Tryz.func83,Tryz.ntmps83
    go_upto_region 2 with fail
    generalize (w.alloc (.cells #[.int .i64 0,.slice none 0 0] 26)).alloc (.cells #[.int .i64 0,.slice none 0 0] 26) = w1 at *
    go_wp2_with fail
    refine (HT.out _ _).mono ?_
    rintro e w2 ⟨v,rfl,⟨A,n,c,rfl,hs1,hn1⟩,hb1⟩
    have HS1:=hide hs1
    have HN1:=hide hn1
    have HB1:=hide hb1
    have HJ0:=hide (HK0.out.below hb1 (by have:=HZ0.out;omega))
    have HJ1:=hide (HK1.out.below hb1 (by have:=HZ0.out;omega))
    have HW1:=hide (HW0.out.trans (hb1.mono (by have:=HZ0.out;omega)))
    clear hs1 hn1 hb1
    go_wp2_with fail
    refine (HT.out _ _).mono ?_
    rintro e w3 ⟨v,rfl,⟨B,m,d,rfl,hs2,hn2⟩,hb2⟩
    have hsz1:=HB1.out.size
    have hsz2:=hb2.size
    have hz0:=HZ0.out
    have hk0:=HJ0.out.below hb2 (by omega)
    have hk1:=HJ1.out.below hb2 (by omega)
    have HS2:=hide hs2
    have HN2:=hide (fun (hn:0 < m) (ad:Addr) (e:B = some ad) => Nat.le_trans hsz1 (hn2 hn ad e))
    have HS1':=hide (HS1.out.below hb2)
    have HW2:=hide (HW1.out.trans (hb2.mono (by omega)))
    have HX0:=hide hk0
    have HX1:=hide hk1
    have q0:=hk0.cell 0
    have q1:=hk0.cell 1
    have q2:=hk0.frozen 0
    have q3:=hk0.frozen 1
    have q4:=hk1.cell 0
    have q5:=hk1.cell 1
    have q6:=hk1.frozen 0
    have q7:=hk1.frozen 1
    have q8:w.heap.size < w3.heap.size:=by omega
    have q9:w.heap.size + 1 < w3.heap.size:=by omega
    simp at q0 q1 q4 q5
    clear hs2 hn2 hb2 hk0 hk1 HJ0 HJ1 HS1 HK0 HK1 HB1 HW0 HW1
    obtain ⟨l1,hl1⟩:∃ x,(LP.canon (LP.term 1 1)).1 = x:=⟨_,rfl⟩
    obtain ⟨l2,hl2⟩:∃ x,(LP.canon (LP.term (-1) 1)).1 = x:=⟨_,rfl⟩
    rw [hl1,hl2]
    have HL1:=hide hl1
    have HL2:=hide hl2
    clear hl1 hl2
    go_wp2_with fail
    have n1:0 < n → ∀ ad,A = some ad → w.heap.size + 2 ≤ ad.block:=fun hn ad e => by have:=HN1.out hn ad e;omega
    have n2:0 < m → ∀ ad,B = some ad → w.heap.size + 2 ≤ ad.block:=fun hn ad e => by have:=HN2.out hn ad e;omega
    refine bodyPost_ret (results_pp rfl _ rfl rfl ((((HX0.out.set_ 0 (.int .i64 l1)).set_ 1 (.slice A n c)).far (p:=⟨w.heap.size + 1,0,none⟩) (by show w.heap.size ≠ w.heap.size + 1;omega) _).far (p:=⟨w.heap.size + 1,1,none⟩) (by show w.heap.size ≠ w.heap.size + 1;omega) _) ((((HX1.out.far (p:=⟨w.heap.size,0,none⟩) (by show w.heap.size + 1 ≠ w.heap.size;omega) _).far (p:=⟨w.heap.size,1,none⟩) (by show w.heap.size + 1 ≠ w.heap.size;omega) _).set_ 0 (.int .i64 l2)).set_ 1 (.slice B m d))) rfl ?_
    refine ⟨_,_,rfl,⟨A,n,c,?_,?_,fun hn ad e => by have:=n1 hn ad e;omega⟩,⟨B,m,d,?_,?_,fun hn ad e => by have:=n2 hn ad e;omega⟩,?_⟩
    · rw [HL1.out]
    · exact (((HS1'.out.setCell (fun hn ad e => by have:=n1 hn ad e;omega) 0 _).setCell (fun hn ad e => by have:=n1 hn ad e;omega) 1 _).setCell (fun hn ad e => by have:=n1 hn ad e;omega) 0 _).setCell (fun hn ad e => by have:=n1 hn ad e;omega) 1 _
    · first | rw [HL2.out] | rw [show (- -1:Int) = 1 from rfl,HL2.out]
    · exact (((HS2.out.setCell (fun hn ad e => by have:=n2 hn ad e;omega) 0 _).setCell (fun hn ad e => by have:=n2 hn ad e;omega) 1 _).setCell (fun hn ad e => by have:=n2 hn ad e;omega) 0 _).setCell (fun hn ad e => by have:=n2 hn ad e;omega) 1 _
    · exact (((HW2.out.setCell (p:=⟨w.heap.size,0,none⟩) (Nat.le_refl _) _).setCell (p:=⟨w.heap.size,1,none⟩) (Nat.le_refl _) _).setCell (p:=⟨w.heap.size + 1,0,none⟩) (by show w.heap.size ≤ w.heap.size + 1;omega) _).setCell (p:=⟨w.heap.size + 1,1,none⟩) (by show w.heap.size ≤ w.heap.size + 1;omega) _
  · have f:decide ((x:Int) > 0) = false:=by simpa using hx
    have hsx:sgx x = -1:=by unfold sgx;rw [if_neg hx]
    rw [hsx]
    clear hx hsx
    go_enter Tryz.func83,Tryz.ntmps83
    go_upto_region 3 with fail
    generalize (w.alloc (.cells #[.int .i64 0,.slice none 0 0] 26)).alloc (.cells #[.int .i64 0,.slice none 0 0] 26) = w1 at *
    go_wp2_with fail
    refine (HT.out _ _).mono ?_
    rintro e w2 ⟨v,rfl,⟨A,n,c,rfl,hs1,hn1⟩,hb1⟩
    have HS1:=hide hs1
    have HN1:=hide hn1
    have HB1:=hide hb1
    have HJ0:=hide (HK0.out.below hb1 (by have:=HZ0.out;omega))
    have HJ1:=hide (HK1.out.below hb1 (by have:=HZ0.out;omega))
    have HW1:=hide (HW0.out.trans (hb1.mono (by have:=HZ0.out;omega)))
    clear hs1 hn1 hb1
    go_wp2_with fail
    refine (HT.out _ _).mono ?_
    rintro e w3 ⟨v,rfl,⟨B,m,d,rfl,hs2,hn2⟩,hb2⟩
    have hsz1:=HB1.out.size
    have hsz2:=hb2.size
    have hz0:=HZ0.out
    have hk0:=HJ0.out.below hb2 (by omega)
    have hk1:=HJ1.out.below hb2 (by omega)
    have HS2:=hide hs2
    have HN2:=hide (fun (hn:0 < m) (ad:Addr) (e:B = some ad) => Nat.le_trans hsz1 (hn2 hn ad e))
    have HS1':=hide (HS1.out.below hb2)
    have HW2:=hide (HW1.out.trans (hb2.mono (by omega)))
    have HX0:=hide hk0
    have HX1:=hide hk1
    have q0:=hk0.cell 0
    have q1:=hk0.cell 1
    have q2:=hk0.frozen 0
    have q3:=hk0.frozen 1
    have q4:=hk1.cell 0
    have q5:=hk1.cell 1
    have q6:=hk1.frozen 0
    have q7:=hk1.frozen 1
    have q8:w.heap.size < w3.heap.size:=by omega
    have q9:w.heap.size + 1 < w3.heap.size:=by omega
    simp at q0 q1 q4 q5
    clear hs2 hn2 hb2 hk0 hk1 HJ0 HJ1 HS1 HK0 HK1 HB1 HW0 HW1
    obtain ⟨l1,hl1⟩:∃ x,(LP.canon (LP.term (-1) 1)).1 = x:=⟨_,rfl⟩
    obtain ⟨l2,hl2⟩:∃ x,(LP.canon (LP.term 1 1)).1 = x:=⟨_,rfl⟩
    rw [hl1,hl2]
    have HL1:=hide hl1
    have HL2:=hide hl2
    clear hl1 hl2
    go_wp2_with fail
    have n1:0 < n → ∀ ad,A = some ad → w.heap.size + 2 ≤ ad.block:=fun hn ad e => by have:=HN1.out hn ad e;omega
    have n2:0 < m → ∀ ad,B = some ad → w.heap.size + 2 ≤ ad.block:=fun hn ad e => by have:=HN2.out hn ad e;omega
    refine bodyPost_ret (results_pp rfl _ rfl rfl ((((HX0.out.set_ 0 (.int .i64 l1)).set_ 1 (.slice A n c)).far (p:=⟨w.heap.size + 1,0,none⟩) (by show w.heap.size ≠ w.heap.size + 1;omega) _).far (p:=⟨w.heap.size + 1,1,none⟩) (by show w.heap.size ≠ w.heap.size + 1;omega) _) ((((HX1.out.far (p:=⟨w.heap.size,0,none⟩) (by show w.heap.size + 1 ≠ w.heap.size;omega) _).far (p:=⟨w.heap.size,1,none⟩) (by show w.heap.size + 1 ≠ w.heap.size;omega) _).set_ 0 (.int .i64 l2)).set_ 1 (.slice B m d))) rfl ?_
    refine ⟨_,_,rfl,⟨A,n,c,?_,?_,fun hn ad e => by have:=n1 hn ad e;omega⟩,⟨B,m,d,?_,?_,fun hn ad e => by have:=n2 hn ad e;omega⟩,?_⟩
    · rw [HL1.out]
    · exact (((HS1'.out.setCell (fun hn ad e => by have:=n1 hn ad e;omega) 0 _).setCell (fun hn ad e => by have:=n1 hn ad e;omega) 1 _).setCell (fun hn ad e => by have:=n1 hn ad e;omega) 0 _).setCell (fun hn ad e => by have:=n1 hn ad e;omega) 1 _
    · first | rw [HL2.out] | rw [show (- -1:Int) = 1 from rfl,HL2.out]
    · exact (((HS2.out.setCell (fun hn ad e => by have:=n2 hn ad e;omega) 0 _).setCell (fun hn ad e => by have:=n2 hn ad e;omega) 1 _).setCell (fun hn ad e => by have:=n2 hn ad e;omega) 0 _).setCell (fun hn ad e => by have:=n2 hn ad e;omega) 1 _
    · exact (((HW2.out.setCell (p:=⟨w.heap.size,0,none⟩) (Nat.le_refl _) _).setCell (p:=⟨w.heap.size,1,none⟩) (Nat.le_refl _) _).setCell (p:=⟨w.heap.size + 1,0,none⟩) (by show w.heap.size ≤ w.heap.size + 1;omega) _).setCell (p:=⟨w.heap.size + 1,1,none⟩) (by show w.heap.size ≤ w.heap.size + 1;omega) _
structure JP (w:World) (K:Nat) (lo:Int) (A:Option Addr) (n c:Nat) (q:LP):Prop where
  lo:lo = (LP.canon q).1
  sl:SL w A n c (LP.canon q).2
  far:0 < n → ∀ ad,A = some ad → K ≤ ad.block
theorem JP.jq {w:World} {K:Nat} {lo:Int} {A:Option Addr} {n c:Nat} {q:LP} (h:JP w K lo A n c q):JQ w K (PV lo A n c) q:=⟨A,n,c,by rw [h.lo],h.sl,h.far⟩
theorem JP.below {w w':World} {K:Nat} {lo:Int} {A:Option Addr} {n c:Nat} {q:LP} (h:JP w K lo A n c q) (hb:Below w.heap.size w w'):JP w' K lo A n c q:=⟨h.lo,h.sl.below hb,h.far⟩
theorem JP.mono {w:World} {K K':Nat} {lo:Int} {A:Option Addr} {n c:Nat} {q:LP} (h:JP w K lo A n c q) (hk:K' ≤ K):JP w K' lo A n c q:=⟨h.lo,h.sl,fun hn ad e => Nat.le_trans hk (h.far hn ad e)⟩
theorem JP.set_ {w:World} {K g i:Nat} {lo:Int} {A:Option Addr} {n c:Nat} {q:LP} (h:JP w K lo A n c q) (hg:g < K) (u:Value):JP (w.setCell ⟨g,i,none⟩ u) K lo A n c q:=⟨h.lo,h.sl.setCell (fun hn ad e => by have:=h.far hn ad e;omega) i u,h.far⟩
theorem JQ.jp {w:World} {K:Nat} {v:Value} {q:LP} (h:JQ w K v q):∃ lo A n c,v = PV lo A n c ∧ JP w K lo A n c q:=by
  obtain ⟨A,n,c,e,h1,h2⟩:=h
  exact ⟨_,A,n,c,e,rfl,h1,h2⟩
noncomputable def lmb:LP:=LP.term 2 (-1) + LP.term (-2) (-1)
theorem lmb_canon:LP.canon lmb = (-2,[-1,0,0,0,-1]):=by
  have e:lmb = LP.of (-2) [-1,0,0,0,-1]:=LP.ext fun k => by
    show LP.co (LP.term 2 (-1) + LP.term (-2) (-1)) k = LP.co (LP.term (-2) (-1) + (LP.term (-2 + 1) 0 + (LP.term (-2 + 1 + 1) 0 + (LP.term (-2 + 1 + 1 + 1) 0 + (LP.term (-2 + 1 + 1 + 1 + 1) (-1) + 0))))) k
    simp only [LP.co_add,LP.co_term,LP.co_zero]
    grind
  rw [e]
  exact LP.canon_of (.inr ⟨by simp,by decide,by decide⟩)
theorem dlt_succ (k:Nat):dlt (k + 1) = dlt k * lmb:=rfl
theorem dlt_rt {k:Nat} (h:k ≤ 12):LP.Rt (dlt k):=(dlt_n1 k).rt (by omega) (Nat.le_trans (Nat.pow_le_pow_right (n:=2) (by omega) h) (by decide))
theorem lmb_rt:LP.Rt lmb:=((LP.N1.term 2 (-1)).add (LP.N1.term (-2) (-1))).rt (by decide) (by decide)
set_option maxRecDepth 100000 in
set_option maxHeartbeats 2000000 in
theorem jvalue_any (F:PolyC) (L:Nat) (hL:L ≤ 12) (w:World):Calls Tryz.prog 87 #[.int .i64 L] w (GivesJ w (dlt L)):=by
  have HT:=hide (jterm_any 1 0 (w.alloc (.cells #[.int .i64 0,.slice none 0 0] 26)) (.inl rfl))
  have HM:=hide (fun (k:Nat) (hk:k < 12) (K K':Nat) (u v:Value) (w:World) (hu:JQ w K u (dlt k)) (hv:JQ w K' v lmb) => by
    have h:=jtimes_any F (dlt_rt (k:=k) (by omega)) lmb_rt (by rw [← dlt_succ];exact dlt_rt (by omega)) w hu hv
    rw [← dlt_succ] at h
    exact h)
  have HLC:=hide lmb_canon
  have HW0:=hide ((Below.refl w.heap.size w).alloc (Nat.le_refl _) (.cells #[.int .i64 0,.slice none 0 0] 26))
  have HK0:=hide (Blk.new w 26 #[.int .i64 0,.slice none 0 0])
  clear F
  go_enter Tryz.func87,Tryz.ntmps87
  go_wp2_with fail
  refine HT.out.mono ?_
  rintro e w1 ⟨v,rfl,⟨A,n,c,rfl,hs,hn⟩,hb⟩
  have HS:=hide hs
  have HN:=hide hn
  have HW1:=hide (HW0.out.trans (hb.mono HW0.out.size))
  have HK1:=hide (HK0.out.below hb (by simp))
  have HZ1:=hide (show w.heap.size + 1 ≤ w1.heap.size by have:=hb.size;simpa using this)
  clear hs hn hb HT HW0 HK0
  obtain ⟨l0,hl0⟩:∃ x,(LP.canon (LP.term 0 1)).1 = x:=⟨_,rfl⟩
  rw [hl0]
  have HL0:=hide hl0
  clear hl0
  go_upto_region 2 with fail
  have hb2:Below w.heap.size w (w1.alloc (.cells #[.int .i64 l0,.slice A n c] 26)):=HW1.out.alloc HW1.out.size _
  have hk2:=HK1.out.alloc (.cells #[.int .i64 l0,.slice A n c] 26)
  have hk3:=Blk.new w1 26 #[.int .i64 l0,.slice A n c]
  have hj:JP (w1.alloc (.cells #[.int .i64 l0,.slice A n c] 26)) (w.heap.size + 1) l0 A n c (dlt 0):=⟨HL0.out.symm,HS.out.below ((Below.refl _ _).alloc (Nat.le_refl _) _),fun h ad e => by have:=HN.out h ad e;rwa [World.size_alloc] at this⟩
  have hz2:(w1.alloc (.cells #[.int .i64 l0,.slice A n c] 26)).heap.size = w1.heap.size + 1:=by simp
  have hz1:=HZ1.out
  clear HS HN HW1 HK1 HL0 HZ1
  generalize w1.alloc (.cells #[.int .i64 l0,.slice A n c] 26) = w2 at *
  generalize w1.heap.size = b1 at hk3 hz2 hz1 ⊢
  have HB2:=hide hb2
  have HK2:=hide hk2
  have HK3:=hide hk3
  have HJ:=hide hj
  have HZ2:=hide hz2
  clear hb2 hk2 hk3 hj hz2
  go_wp2_with fail
  go_loopw [6] (fun iv wr => ∃ (k:Nat) (lo:Int) (A:Option Addr) (n c:Nat),k ≤ L ∧ iv = .int .i64 k ∧ JP wr (w.heap.size + 1) lo A n c (dlt k) ∧ Blk wr b1 26 #[.int .i64 lo,.slice A n c] ∧ Blk wr w.heap.size 26 #[.int .i64 0,.slice none 0 0] ∧ Below w.heap.size w wr) (fun iv _ => L - (intOf iv).toNat)
  case atStart => exact ⟨0,l0,A,n,c,Nat.zero_le _,rfl,HJ.out,HK3.out,HK2.out,HB2.out⟩
  case round =>
    clear HJ HK3 HK2 HB2 HZ2
    obtain ⟨k,lo,A,n,c,hk,rfl,hj,hk3,hk2,hbw⟩:=hrel
    have HJ:=hide hj
    have HK3:=hide hk3
    have HK2:=hide hk2
    have HBW:=hide hbw
    have q0:=hk3.cell 0
    have q1:=hk3.cell 1
    have q2:=hk3.frozen 0
    have q3:=hk3.frozen 1
    simp at q0 q1
    clear hj hk3 hk2 hbw
    by_cases hlt:k < L
    · have hl:=SL.lit wr [-1,0,0,0,-1] (by decide) (cs:=#[.int .i64 (-1),.int .i64 0,.int .i64 0,.int .i64 0,.int .i64 (-1)]) rfl (m:=5) rfl
      have hal:Below wr.heap.size wr (wr.alloc (.cells #[.int .i64 (-1),.int .i64 0,.int .i64 0,.int .i64 0,.int .i64 (-1)] 3)):=(Below.refl _ _).alloc (Nat.le_refl _) _
      have HE:=hide (HM.out k (by omega) (w.heap.size + 1) 0 (PV lo A n c) (PV (-2) (some ⟨wr.heap.size,0,none⟩) 5 5) _ ((HJ.out.below hal).jq) ⟨some ⟨wr.heap.size,0,none⟩,5,5,by rw [HLC.out],by rw [HLC.out];exact hl,fun _ _ _ => Nat.zero_le _⟩)
      have HAL:=hide hal
      clear hl hal
      have hlt2:=HK3.out.lt
      go_wp2_with fail
      refine HE.out.mono ?_
      rintro e w3 ⟨v,rfl,⟨A2,n2,c2,rfl,hs3,hn3⟩,hb3⟩
      have hk3:=(HK3.out.below HAL.out hlt2).below hb3 (by rw [World.size_alloc];omega)
      have q0:=hk3.cell 0
      have q1:=hk3.cell 1
      have q2:=hk3.frozen 0
      have q3:=hk3.frozen 1
      simp at q0 q1
      have hk2:=(HK2.out.below HAL.out HK2.out.lt).below hb3 (by rw [World.size_alloc];omega)
      have hbw:=HBW.out.trans ((HAL.out.trans (hb3.mono (by rw [World.size_alloc];omega))).mono HBW.out.size)
      have hn4:0 < n2 → ∀ ad,A2 = some ad → b1 + 1 ≤ ad.block:=fun h ad e => by
        have:=hn3 h ad e
        rw [World.size_alloc] at this
        omega
      have HS3:=hide hs3
      have HN4:=hide hn4
      have HX3:=hide hk3
      have HX2:=hide hk2
      have HXW:=hide hbw
      obtain ⟨l2,hl2⟩:∃ x,(LP.canon (dlt (k + 1))).1 = x:=⟨_,rfl⟩
      rw [hl2]
      have HL2:=hide hl2
      clear hs3 hn3 hb3 hk3 hk2 hbw hn4 HE HAL HJ HK3 HK2 HBW hl2
      go_wp2_with fail
      go_roundw
      case rel =>
        exact ⟨k + 1,l2,A2,n2,c2,by omega,by go_num,⟨HL2.out.symm,(HS3.out.setCell (fun h ad e => by have:=HN4.out h ad e;omega) 0 _).setCell (fun h ad e => by have:=HN4.out h ad e;omega) 1 _,fun h ad e => by have:=HN4.out h ad e;omega⟩,(HX3.out.set_ 0 (.int .i64 l2)).set_ 1 (.slice A2 n2 c2),(HX2.out.far (p:=⟨b1,0,none⟩) (by show w.heap.size ≠ b1;omega) _).far (p:=⟨b1,1,none⟩) (by show w.heap.size ≠ b1;omega) _,(HXW.out.setCell (p:=⟨b1,0,none⟩) (by show w.heap.size ≤ b1;omega) _).setCell (p:=⟨b1,1,none⟩) (by show w.heap.size ≤ b1;omega) _⟩
      case measure => simp [intOf];omega
    · have he:k = L:=by omega
      subst he
      have q4:=HK2.out.cell 0
      have q5:=HK2.out.cell 1
      have q6:=HK2.out.frozen 0
      have q7:=HK2.out.frozen 1
      simp at q4 q5
      go_wp2_with fail
      refine bodyPost_ret (results_poly rfl _ rfl ((HK2.out.set_ 0 (.int .i64 lo)).set_ 1 (.slice A n c))) rfl ?_
      obtain ⟨e1,e2,e3⟩:=HJ.out
      refine ⟨_,rfl,⟨A,n,c,by rw [e1],(e2.setCell (fun h ad e => by have:=e3 h ad e;omega) 0 _).setCell (fun h ad e => by have:=e3 h ad e;omega) 1 _,fun h ad e => by have:=e3 h ad e;omega⟩,(HBW.out.setCell (p:=⟨w.heap.size,0,none⟩) (Nat.le_refl _) _).setCell (p:=⟨w.heap.size,1,none⟩) (Nat.le_refl _) _⟩
end Go.Proofs.YtndgffiihbdppaaGreatDoor
