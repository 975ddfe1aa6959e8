/- Several texts in one. -/
import Derived.Test.YtndgffiihbdppaaGreatDoorPart24
import Derived.Laws.CopyOwn
import Derived.Test.YtndgffiihbdppaaGreatDoorBase1
import Derived.Test.YtndgffiihbdppaaGreatDoorPart8
import Derived.Test.YtndgffiihbdppaaGreatDoorPart1
namespace Go.Proofs.YtndgffiihbdppaaGreatDoor
set_option linter.unusedVariables false
set_option linter.unusedSimpArgs false
open Go.RowKit Go.Maps

theorem eJplus:∀ args w,(callFunc 89 args).run Tryz.prog w = .ok (.enter 89 args) w:=enters (fn:=Tryz.f89) (by kernel_rfl) (by kernel_rfl) (by kernel_rfl)
theorem eJtimes:∀ args w,(callFunc 85 args).run Tryz.prog w = .ok (.enter 85 args) w:=enters (fn:=Tryz.f85) (by kernel_rfl) (by kernel_rfl) (by kernel_rfl)
theorem gr_below {g:Nat} {w w':World} (hb:Below w.heap.size w w'):w.grownBy w' (some g):=⟨hb.os,hb.tape,hb.output,hb.size,fun b h _ => hb.block b h⟩
theorem gr_trans {g:Nat} {w w1 w2:World} (h1:w.grownBy w1 (some g)) (h2:w1.grownBy w2 (some g)):w.grownBy w2 (some g):=
  ⟨h2.os.trans h1.os,h2.tape.trans h1.tape,h2.output.trans h1.output,Nat.le_trans h1.size h2.size,fun b h hne => (h2.block b (Nat.lt_of_lt_of_le h h1.size) hne).trans (h1.block b h hne)⟩
def z12:List Value:=[.int .i64 0,.int .i64 0,.int .i64 0,.int .i64 0,.int .i64 0,.int .i64 0,.int .i64 0,.int .i64 0,.int .i64 0,.int .i64 0,.int .i64 0,.int .i64 0]
theorem z12_get (j:Nat) (h:j < 12):z12[j]? = some (.int .i64 0):=by
  match j,h with
  | 0,_ | 1,_ | 2,_ | 3,_ | 4,_ | 5,_ | 6,_ | 7,_ | 8,_ | 9,_ | 10,_ | 11,_ => rfl
theorem ky_splice {d:List Nat} (h:d.length ≤ 12):(splice z12 0 ((zs d).map (Value.int .i64))).toArray = kyA d:=by
  unfold kyA splice
  congr 1
  rw [List.take_zero,List.nil_append,List.length_map,zs_length,Nat.zero_add]
  refine List.ext_getElem? fun j => ?_
  by_cases hj:j < 12
  · rw [List.getElem?_map,List.getElem?_range hj]
    by_cases hd:j < d.length
    · rw [List.getElem?_append_left (by rw [List.length_map,zs_length];exact hd)]
      unfold zs
      simp [List.getD,hd]
    · rw [List.getElem?_append_right (by rw [List.length_map,zs_length];omega),List.length_map,zs_length,List.getElem?_drop,show d.length + (j - d.length) = j by omega,z12_get j hj]
      simp [List.getD,List.getElem?_eq_none (Nat.not_lt.1 hd)]
  · rw [List.getElem?_eq_none (by simp [zs_length,z12];omega),List.getElem?_eq_none (by simp;omega)]
theorem mapT:Tryz.prog.underlying 93 = some (.map 113 26):=Tryz.underlying93
theorem putO_length (d:List Nat) (q:LP):∀ o:Cmb,(putO o d q).length ≤ o.length + 1
  | [] => Nat.le_refl _
  | p :: o => by
    unfold putO
    by_cases h:p.1 = d
    · rw [if_pos h];simp
    · rw [if_neg h];have:=putO_length d q o;simp;omega
theorem intsOne (l:List Int):∀ v ∈ l.map (Value.int .i64),v.oneCell' = true:=fun v hv => by
  obtain ⟨x,_,rfl⟩:=List.mem_map.1 hv
  rfl
set_option maxRecDepth 100000 in
set_option maxHeartbeats 2000000 in
theorem jadd_any (F:PolyC) {N b K:Nat} (h1:1 ≤ N) (h6:N ≤ 6) {o:Cmb} {d:List Nat} (hd:d ∈ Tl.plan N) {q:LP} (hg:LP.Rt (getO o d)) (hq:LP.Rt q) (hgq:LP.Rt (getO o d + q)) (ho:o.length ≤ 100000)
    (D:Option Addr) (dn dc K2:Nat) (v:Value) (w:World) (hD:SL w D dn dc (zs d)) (hv:JQ w K2 v q) (hB:CmB N w b K o) :
    Calls Tryz.prog 82 #[.agg #[.int .i64 N,.map (some b)],.slice D dn dc,v] w fun e w' => e = .returned (.tuple #[]) ∧ CmB N w' b K (addOj o d q) ∧ w.grownBy w' (some b):=by
  obtain ⟨lo,A,n,c,rfl,hv⟩:=hv.jp
  have HI3:=hide (show (Tryz.prog.info? 3).map (·.size) = some 1 by kernel_rfl)
  obtain ⟨hdl,hds⟩:=plan_small h1 h6 hd
  have hdn:dn = 2 * N:=by have:=hD.il.len;rw [zs_length] at this;omega
  subst hdn
  obtain ⟨ad,hDa,hal,hac⟩:=hD.il.mem (by omega)
  subst hDa
  obtain ⟨kl,hkl⟩:=keyE hds
  have hz2:((w.alloc (.cells #[.int .i64 N,.map (some b)] 95)).alloc (.cells #[.int .i64 lo,.slice A n c] 26)).heap.size = w.heap.size + 2:=by simp
  have hb2:Below w.heap.size w ((w.alloc (.cells #[.int .i64 N,.map (some b)] 95)).alloc (.cells #[.int .i64 lo,.slice A n c] 26)):=((Below.refl _ _).alloc (Nat.le_refl _) _).alloc (by simp) _
  have hk0:Blk ((w.alloc (.cells #[.int .i64 N,.map (some b)] 95)).alloc (.cells #[.int .i64 lo,.slice A n c] 26)) w.heap.size 95 #[.int .i64 N,.map (some b)]:=(Blk.new w _ _).alloc _
  have hk1:Blk ((w.alloc (.cells #[.int .i64 N,.map (some b)] 95)).alloc (.cells #[.int .i64 lo,.slice A n c] 26)) (w.heap.size + 1) 26 #[.int .i64 lo,.slice A n c]:=by
    have:=Blk.new (w.alloc (.cells #[.int .i64 N,.map (some b)] 95)) 26 #[.int .i64 lo,.slice A n c]
    rwa [World.size_alloc] at this
  obtain ⟨wa,hwa⟩:∃ x,(w.alloc (.cells #[.int .i64 N,.map (some b)] 95)).alloc (.cells #[.int .i64 lo,.slice A n c] 26) = x:=⟨_,rfl⟩
  have HX:=hide hwa
  rw [hwa] at hz2 hb2 hk0 hk1
  clear hwa
  have hb3:Below wa.heap.size wa (wa.alloc (.cells z12.toArray 113)):=(Below.refl _ _).alloc (Nat.le_refl _) _
  have hk2:Blk (wa.alloc (.cells z12.toArray 113)) (w.heap.size + 1 + 1) 113 z12.toArray:=by
    have:=Blk.new wa 113 z12.toArray
    rwa [hz2] at this
  have hsrc:∀ j v,((zs d).map (Value.int .i64))[j]? = some v → (wa.alloc (.cells z12.toArray 113)).cell? (ad.add j) = some v:=fun j v hj => by
    rw [List.getElem?_map] at hj
    cases hx:(zs d)[j]? with
    | none => rw [hx] at hj;cases hj
    | some x =>
      rw [hx] at hj
      injection hj with hj
      have hjl:j < 2 * N:=by
        have:=(List.getElem?_eq_some_iff.1 hx).1
        rw [zs_length] at this
        omega
      have h5:=hac j hjl
      have h6:(zs d).getD j 0 = x:=by simp [List.getD,hx]
      rw [h6] at h5
      rw [← hj,← h5]
      refine (hb3.cell (p:=ad.add j) (by rw [block_of_add,hz2];omega)).trans (hb2.cell (p:=ad.add j) (by rw [block_of_add];exact hal))
  have HS:=hide hsrc
  have HB3:=hide hb3
  have HK2:=hide hk2
  have HK1:=hide hk1
  have HK0:=hide hk0
  have HB2:=hide hb2
  have HZ2:=hide hz2
  have HV:=hide hv
  have HCB:=hide hB
  have HKL:=hide hkl
  have hlen:((zs d).map (Value.int .i64)).length = Nat.min (2 * N) 12:=by rw [List.length_map,zs_length,hdl];exact (Nat.min_eq_left (by omega)).symm
  have HLN:=hide hlen
  have HDL:=hide hdl
  have HPL:=hide hd
  clear hsrc hb3 hk2 hk1 hk0 hb2 hz2 hv hB hD hac hkl hlen hds hd
  go_enter Tryz.func82,Tryz.ntmps82
  go_upto_region 2 with fail
  rw [HX.out]
  go_upto_region 3 with ((with_reducible show wpList _ _ _ (Oper.mk _ (.call { callee:=.builtin .copy,args:=_,argTypes:=_ }) _ _ _ _ :: _) _ _);go_loud (refine wpList_copy_splice rfl (.tmp 7) (.tmp 8) 23 23 rfl 3 Tryz.underlying23 HI3.out (some ⟨w.heap.size + 1 + 1,0,none⟩) (some ad) 12 12 (2 * N) dc rfl rfl (w.heap.size + 1 + 1) 0 z12 113 HK2.out ((zs d).map (Value.int .i64)) HLN.out (fun _ => ⟨rfl,ad,rfl,HS.out⟩) (by rw [List.length_map,zs_length,HDL.out];show 0 + 2 * N ≤ 12;omega) (intsOne _) wa.heap.size wa HB3.out (by have:=HZ2.out;omega) ?_;intro w2 hg2 hb2))
  have hlt:=HB2.out.size
  have hz2:=HZ2.out
  rw [ky_splice (by rw [HDL.out];omega)] at hg2
  have hsz:w.heap.size + 3 ≤ w2.heap.size:=by
    have h:=Blk.lt (w:=w2) (g:=w.heap.size + 1 + 1) (t:=113) (cs:=kyA d) hg2.out
    omega
  have X0:=hide (HK0.out.below hb2 (by omega))
  have X1:=hide (HK1.out.below hb2 (by omega))
  have X2:=hide (show Blk w2 (w.heap.size + 1 + 1) 113 (kyA d) from hg2.out)
  have hbw:=HB2.out.trans (hb2.mono (by omega))
  have HBW:=hide hbw
  have HV2:=hide (HV.out.below hbw)
  have HC2:=hide (HCB.out.below hbw)
  have X0L:=hide X0.out.lt
  have X1L:=hide X1.out.lt
  have X2L:=hide X2.out.lt
  clear hg2 hb2 HK0 HK1 HK2 HB2 HB3 HS HX HV HCB hbw HLN hal hv
  clear hz2 HZ2 hlt
  clear wa
  refine wp_region_T (S:=fun w' => Below w2.heap.size w2 w') 9 (by kernel_rfl) (Below.refl _ _).drew (fun hS => ?_)
  refine wpT_tk 0 (v:=.pointer (some ⟨w.heap.size,1,none⟩)) rfl (by kernel_rfl) (by kernel_rfl) (by kernel_rfl) (by kernel_rfl) (yi rfl fun w' hw' => gives_fld rfl Tryz.underlying95 rfl rfl rfl (fun w => rfl)) hS ?_
  go_frame
  refine wpT_tk 1 (v:=.map (some b)) rfl (by kernel_rfl) (by kernel_rfl) (by kernel_rfl) (by kernel_rfl) (yi rfl fun w' hw' => gives_load1 rfl (by kernel_rfl) rfl (by have h:=(X0.out.below hw' X0L.out).cell 1;simpa using h)) hS ?_
  go_frame
  refine wpT_tk 2 (v:=ky d) rfl (by kernel_rfl) (by kernel_rfl) (by kernel_rfl) (by kernel_rfl) (yi rfl fun w' hw' => gives_loadRow rfl rfl (X2.out.below hw' X2L.out) Tryz.underlying113 (by kernel_rfl) (by rw [kyA_size];kernel_rfl)) hS ?_
  go_frame
  refine wpT_tk 3 (v:=.pointer (some ⟨w.heap.size,1,none⟩)) rfl (by kernel_rfl) (by kernel_rfl) (by kernel_rfl) (by kernel_rfl) (yi rfl fun w' hw' => gives_fld rfl Tryz.underlying95 rfl rfl rfl (fun w => rfl)) hS ?_
  go_frame
  refine wpT_tk 4 (v:=.map (some b)) rfl (by kernel_rfl) (by kernel_rfl) (by kernel_rfl) (by kernel_rfl) (yi rfl fun w' hw' => gives_load1 rfl (by kernel_rfl) rfl (by have h:=(X0.out.below hw' X0L.out).cell 1;simpa using h)) hS ?_
  go_frame
  refine wpT_tk 5 (v:=ky d) rfl (by kernel_rfl) (by kernel_rfl) (by kernel_rfl) (by kernel_rfl) (yi rfl fun w' hw' => gives_loadRow rfl rfl (X2.out.below hw' X2L.out) Tryz.underlying113 (by kernel_rfl) (by rw [kyA_size];kernel_rfl)) hS ?_
  go_frame
  obtain ⟨T,hT,hE⟩:=HC2.out.mp
  have hkeys:Same (2 * N) o:=fun p hp => (plan_small h1 h6 (HC2.out.keys p hp)).1
  have hJ:=hE.look hkeys (by omega) (d:=d) HDL.out
  refine wpT_tk 6 (v:=(lookW T (ky d)).getD (PV 0 none 0 0)) rfl (by kernel_rfl) (by kernel_rfl) (by kernel_rfl) (by kernel_rfl) (yi rfl fun w' hw' => gives_lookup rfl rfl rfl ((hT.below hw').look keyK mapT (by kernel_rfl) HKL.out)) hS ?_
  go_frame
  generalize (lookW T (ky d)).getD (PV 0 none 0 0) = u at *
  refine wpT_tk 7 (v:=PV lo A n c) rfl (by kernel_rfl) (by kernel_rfl) (by kernel_rfl) (by kernel_rfl) (yi rfl fun w' hw' => gives_loadRow rfl rfl (X1.out.below hw' X1L.out) Tryz.underlying26 (by kernel_rfl) (by kernel_rfl)) hS ?_
  go_frame
  have HP:=hide (jplus_any F hg hq hgq w2.drew (hJ.below hS) (HV2.out.below hS))
  refine wpT_1 8 rfl (by kernel_rfl) ?_
  refine wp_call (l:=[.tmp 16,.tmp 17]) [u,PV lo A n c] rfl rfl eJplus rfl ?_
  refine HP.out.mono ?_
  rintro e w3 ⟨r,rfl,hr,hb3⟩
  have hS3:Below w2.heap.size w2 w3:=hS.trans hb3
  refine ⟨r,rfl,fun _ => hS3,?_⟩
  go_frame
  refine wpT_1 9 rfl (by kernel_rfl) ?_
  have hT3:=hT.below hS3
  have hlT:T.length ≤ 100000:=by rw [hE.length];exact ho
  refine hT3.wp_put (.inl rfl) keyK mapT (by unfold maxLen;omega) rfl (ky d) r kl rfl rfl HKL.out ?_
  intro w4 hT4 hg4 hz4
  refine ⟨fun h => absurd rfl h,?_⟩
  go_frame
  refine wpT_done (by kernel_rfl) (noPanic_mk ?_) _
  have hnc:=hT3.nocell
  have hKb:=HC2.out.far
  have hbl:=HC2.out.lt
  have hE4:Ents w4 K (putW T (ky d) r) (addOj o d q):=Ents.map ((hE.map fun v q hq => hq.below hS3).put hkeys (by omega) HDL.out (hr.mono (by have:w2.drew.heap.size = w2.heap.size:=rfl;omega))) fun v q hq => hq.kept hg4 hnc
  have hC4:CmB N w4 b K (addOj o d q):=⟨⟨_,hT4,hE4⟩,fun p hp => by
    rcases putO_keys (List.mem_map.2 ⟨p,hp,rfl⟩) with h | h
    · rw [h];exact HPL.out
    · obtain ⟨p2,hp2,e⟩:=List.mem_map.1 h
      have:=HC2.out.keys p2 hp2
      rw [show p2.1 = p.1 from e] at this
      exact this,hKb⟩
  have hG4:w.grownBy w4 (some b):=gr_trans (gr_below (HBW.out.trans (hS3.mono (by omega)))) hg4
  have HC4:=hide hC4
  have HG4:=hide hG4
  clear hC4 hG4 hE4 hT4 hg4 hnc hT3 hr hb3 hS3 hE hT hJ
  go_wp2_with fail
  go_returns
  exact ⟨rfl,HC4.out,HG4.out⟩
end Go.Proofs.YtndgffiihbdppaaGreatDoor
namespace Go.Proofs.YtndgffiihbdppaaGreatDoor
set_option linter.unusedVariables false
set_option linter.unusedSimpArgs false
open Go.RowKit Go.Maps

/-! ### MatchingFault -/
def Tl.bdF (n:Nat) (d:List Int) (i:Nat):Bool:=decide (d.getD i 0 < 0) || decide ((2 * n:Int) ≤ d.getD i 0) || decide (d.getD i 0 = i) || decide (d.getD (d.getD i 0).toNat 0 ≠ i)
def Tl.posF (n i:Nat):Nat:=if i < n then i else 3 * n - 1 - i
def Tl.stF (d:List Int) (st:List Int) (p:Nat):List Int:=if 0 < st.length ∧ st.getD (st.length - 1) 0 = d.getD p 0 then st.take (st.length - 1) else st ++ [(p:Int)]
def Tl.stsF (n:Nat) (d:List Int) (k:Nat):List Int:=(List.range k).foldl (fun st i => Tl.stF d st (Tl.posF n i)) []
theorem Tl.stsF_succ (n:Nat) (d:List Int) (k:Nat):Tl.stsF n d (k + 1) = Tl.stF d (Tl.stsF n d k) (Tl.posF n k):=by unfold Tl.stsF;rw [List.range_succ,List.foldl_append];rfl
def Tl.mtF (m:Int) (d:List Int):Int:=
  if m < 1 ∨ 6 < m then 1 else if d.length ≠ 2 * m.toNat then 3 else if (List.range d.length).any (Tl.bdF m.toNat d) = true then 3 else if Tl.stsF m.toNat d (2 * m.toNat) ≠ [] then 3 else 0
theorem Tl.bdF_all {n:Nat} {d:List Int} (h:∀ j,j < d.length → Tl.bdF n d j = false):(List.range d.length).any (Tl.bdF n d) = false:=by
  rw [List.any_eq_false]
  intro j hj
  rw [h j (List.mem_range.1 hj)]
  simp
theorem Tl.bdF_one {n:Nat} {d:List Int} {j:Nat} (hj:j < d.length) (h:Tl.bdF n d j = true):(List.range d.length).any (Tl.bdF n d) = true:=List.any_eq_true.2 ⟨j,List.mem_range.2 hj,h⟩

end Go.Proofs.YtndgffiihbdppaaGreatDoor
namespace Go.Proofs.YtndgffiihbdppaaGreatDoor
set_option linter.unusedVariables false
set_option linter.unusedSimpArgs false
open Go.RowKit

def nats (d:List Int):List Nat:=d.map Int.toNat
theorem nats_zs (l:List Nat):nats (zs l) = l:=by
  unfold nats zs
  rw [List.map_map]
  conv => rhs;rw [← List.map_id l]
  exact List.map_congr_left fun x _ => rfl
def tlE (m:Int):Int:=if m < 1 ∨ 6 < m then 1 else 0
def idL (m:Int):List Int:=if tlE m = 0 then zs (Tl.straight m.toNat) else []
def geE (m i:Int):Int:=if tlE m ≠ 0 ∨ i < 1 ∨ m ≤ i then 1 else 0
def geL (m i:Int):List Int:=if geE m i = 0 then zs (Tl.hook m.toNat i.toNat) else []
def prE (m:Int) (a b:List Int):Int:=if Tl.mtF m a ≠ 0 then Tl.mtF m a else Tl.mtF m b
def prL (m:Int) (a b:List Int):List Int:=if prE m a b = 0 then zs (Tl.mul m.toNat (nats a) (nats b)).1 else []
def prK (m:Int) (a b:List Int):Int:=if prE m a b = 0 then ((Tl.mul m.toNat (nats a) (nats b)).2:Nat) else 0
def clK (m:Int) (d:List Int):Int:=if Tl.mtF m d = 0 then (Tl.cir m.toNat (nats d):Nat) else 0
def GivesTL (w:World) (err:Int) (xs:List Int) (e:Ending) (w':World):Prop:=∃ A n c,e = .returned (.tuple #[.slice A n c,.int .i64 err]) ∧ SL w' A n c xs ∧ Below w.heap.size w w'
def GivesTLK (w:World) (err k:Int) (xs:List Int) (e:Ending) (w':World):Prop:=∃ A n c,e = .returned (.tuple #[.slice A n c,.int .i64 k,.int .i64 err]) ∧ SL w' A n c xs ∧ Below w.heap.size w w'
structure TlC:Prop where
  check : ∀ (m : Int) (A : Option Addr) (n c : Nat) (d : List Int) (w : World), SL w A n c d → (Lit.int .i64 m).wf = true → Calls Tryz.prog 94 #[.int .i64 m, .slice A n c] w fun e w' => e = .returned (.int .i64 (Tl.mtF m d)) ∧ Below w.heap.size w w' -- 94
  ident : ∀ (m : Int) (w : World), (Lit.int .i64 m).wf = true → Calls Tryz.prog 81 #[.int .i64 m] w (GivesTL w (tlE m) (idL m)) -- 81
  gener : ∀ (m i : Int) (w : World), (Lit.int .i64 m).wf = true → (Lit.int .i64 i).wf = true → Calls Tryz.prog 84 #[.int .i64 m, .int .i64 i] w (GivesTL w (geE m i) (geL m i)) -- 84
  product : ∀ (m : Int) (A : Option Addr) (n c : Nat) (a : List Int) (B : Option Addr) (k d : Nat) (b : List Int) (w : World), SL w A n c a → SL w B k d b → (Lit.int .i64 m).wf = true → Calls Tryz.prog 86 #[.int .i64 m, .slice A n c, .slice B k d] w (GivesTLK w (prE m a b) (prK m a b) (prL m a b)) -- 86
  closure : ∀ (m : Int) (A : Option Addr) (n c : Nat) (d : List Int) (w : World), SL w A n c d → (Lit.int .i64 m).wf = true → Calls Tryz.prog 88 #[.int .i64 m, .slice A n c] w fun e w' => e = .returned (.tuple #[.int .i64 (clK m d), .int .i64 (Tl.mtF m d)]) ∧ Below w.heap.size w w' -- 88

set_option maxRecDepth 100000 in
theorem plan_fault_all:(List.range 7).all (fun n => n == 0 || (Tl.plan n).all fun d => Tl.mtF n (zs d) == 0) = true:=by decide +kernel
theorem plan_fault {n:Nat} (h0:1 ≤ n) (h6:n ≤ 6) {d:List Nat} (hd:d ∈ Tl.plan n):Tl.mtF n (zs d) = 0:=by
  have h1:=plan_fault_all
  rw [List.all_eq_true] at h1
  have h2:=h1 n (List.mem_range.2 (by omega))
  rw [Bool.or_eq_true,beq_iff_eq,List.all_eq_true] at h2
  rcases h2 with h2 | h2
  · omega
  · simpa using h2 d hd
theorem tlE_ok {n:Nat} (h0:1 ≤ n) (h6:n ≤ 6):tlE (n:Int) = 0:=by unfold tlE;rw [if_neg (by omega)]
theorem geE_ok {n i:Nat} (h0:1 ≤ i) (h1:i < n) (h6:n ≤ 6):geE (n:Int) (i:Int) = 0:=by unfold geE;rw [tlE_ok (by omega) h6,if_neg (by omega)]
theorem geL_ok {n i:Nat} (h0:1 ≤ i) (h1:i < n) (h6:n ≤ 6):geL (n:Int) (i:Int) = zs (Tl.hook n i):=by unfold geL;rw [geE_ok h0 h1 h6,if_pos rfl,Int.toNat_natCast,Int.toNat_natCast]
theorem idL_ok {n:Nat} (h0:1 ≤ n) (h6:n ≤ 6):idL (n:Int) = zs (Tl.straight n):=by unfold idL;rw [tlE_ok h0 h6,if_pos rfl,Int.toNat_natCast]
theorem prE_ok {n:Nat} (h0:1 ≤ n) (h6:n ≤ 6) {x y:List Nat} (hx:x ∈ Tl.plan n) (hy:y ∈ Tl.plan n):prE (n:Int) (zs x) (zs y) = 0:=by unfold prE;rw [plan_fault h0 h6 hx,if_neg (by simp),plan_fault h0 h6 hy]
theorem prL_ok {n:Nat} (h0:1 ≤ n) (h6:n ≤ 6) {x y:List Nat} (hx:x ∈ Tl.plan n) (hy:y ∈ Tl.plan n):prL (n:Int) (zs x) (zs y) = zs (Tl.mul n x y).1 ∧ prK (n:Int) (zs x) (zs y) = ((Tl.mul n x y).2:Nat):=by
  unfold prL prK
  rw [prE_ok h0 h6 hx hy,if_pos rfl,if_pos rfl,nats_zs,nats_zs,Int.toNat_natCast]
  exact ⟨rfl,rfl⟩
theorem clK_ok {n:Nat} (h0:1 ≤ n) (h6:n ≤ 6) {x:List Nat} (hx:x ∈ Tl.plan n):clK (n:Int) (zs x) = (Tl.cir n x:Nat):=by
  unfold clK
  rw [plan_fault h0 h6 hx,if_pos rfl,nats_zs,Int.toNat_natCast]
end Go.Proofs.YtndgffiihbdppaaGreatDoor
namespace Go.Proofs.YtndgffiihbdppaaGreatDoor
set_option linter.unusedVariables false
set_option linter.unusedSimpArgs false
open Go.RowKit Go.Maps

theorem eJterm:∀ args w,(callFunc 48 args).run Tryz.prog w = .ok (.enter 48 args) w:=enters (fn:=Tryz.f48) (by kernel_rfl) (by kernel_rfl) (by kernel_rfl)
theorem eJadd:∀ args w,(callFunc 82 args).run Tryz.prog w = .ok (.enter 82 args) w:=enters (fn:=Tryz.f82) (by kernel_rfl) (by kernel_rfl) (by kernel_rfl)
theorem eJvalue:∀ args w,(callFunc 87 args).run Tryz.prog w = .ok (.enter 87 args) w:=enters (fn:=Tryz.f87) (by kernel_rfl) (by kernel_rfl) (by kernel_rfl)
abbrev CV (N b:Nat):Value:=.agg #[.int .i64 N,.map (some b)]
theorem results_comb {fn:Func} {t:Tmp} {b:Nat} {v0 v1:Value} {w:World} (h:fn.results = #[.cell t 95]) (tmps:Array Value) (ht:tmps.getD t undef = .pointer (some ⟨b,0,none⟩)) (hb:Blk w b 95 #[v0,v1]) :
    (results fn tmps).run Tryz.prog w = .ok (.agg #[v0,v1]) w:=by
  have h0:=hb.cell 0
  have h1:=hb.cell 1
  simp at h0 h1
  have ht2:tmps[t]?.getD undef = .pointer (some ⟨b,0,none⟩):=by simpa using ht
  simp [results,h,ht2,go_sem,h0,h1,Result.andThen]
def GivesC (N:Nat) (o:Cmb) (w:World) (e:Ending) (w':World):Prop:=∃ b,e = .returned (CV N b) ∧ CmB N w' b w.heap.size o ∧ Below w.heap.size w w'
theorem term_rt {e c:Int} (he:e.natAbs ≤ 90) (hc:c.natAbs ≤ 1000):LP.Rt (LP.term e c):=(LP.N1.term e c).rt (by omega) (by omega)
set_option maxRecDepth 100000 in
set_option maxHeartbeats 2000000 in
theorem jident_any (F:PolyC) (G:TlC) {N:Nat} (h1:1 ≤ N) (h6:N ≤ 6) (w:World):Calls Tryz.prog 68 #[.int .i64 N] w (GivesC N (addOj [] (Tl.straight N) (LP.term 0 1)) w):=by
  have hmm:=@run_makeMap Tryz.prog
  have HA:=hide (fun (b K:Nat) (D:Option Addr) (dn dc K2:Nat) (v:Value) (w:World) (hD:SL w D dn dc (zs (Tl.straight N))) (hv:JQ w K2 v (LP.term 0 1)) (hB:CmB N w b K []) =>
    jadd_any F h1 h6 (o:=[]) (d:=Tl.straight N) (Tl.gens_plan h1 h6 (straight_gens N)).1 (q:=LP.term 0 1) (LP.N1.zero.rt (by omega) (by omega)) (term_rt (by decide) (by decide)) (by show LP.Rt (0 + _);rw [CR.zero_add];exact term_rt (by decide) (by decide)) (by simp) D dn dc K2 v w hD hv hB)
  have HT:=hide (fun (w:World) => jterm_any 1 0 w (.inl rfl))
  have HI:=hide (fun (w:World) => by
    have h:=G.ident (N:Int) w (by simp [Lit.wf,IntKind.min,IntKind.max,IntKind.signed,IntKind.bits];omega)
    rw [tlE_ok h1 h6,idL_ok h1 h6] at h
    exact h)
  have hb0:Below w.heap.size w (((w.alloc (.cells #[.int .i64 0,.map none] 95)).alloc (.map #[] 0)).alloc (.cells #[.int .i64 N,.map (some (w.heap.size + 1))] 95)):=(((Below.refl _ _).alloc (Nat.le_refl _) _).alloc (by simp) _).alloc (by simp;omega) _
  have hk0:Blk (((w.alloc (.cells #[.int .i64 0,.map none] 95)).alloc (.map #[] 0)).alloc (.cells #[.int .i64 N,.map (some (w.heap.size + 1))] 95)) w.heap.size 95 #[.int .i64 0,.map none]:=((Blk.new w _ _).alloc _).alloc _
  have hk1:Blk (((w.alloc (.cells #[.int .i64 0,.map none] 95)).alloc (.map #[] 0)).alloc (.cells #[.int .i64 N,.map (some (w.heap.size + 1))] 95)) (w.heap.size + 2) 95 #[.int .i64 N,.map (some (w.heap.size + 1))]:=by
    have:=Blk.new ((w.alloc (.cells #[.int .i64 0,.map none] 95)).alloc (.map #[] 0)) 95 #[.int .i64 N,.map (some (w.heap.size + 1))]
    rwa [World.size_alloc,World.size_alloc] at this
  have hc0:CmB N (((w.alloc (.cells #[.int .i64 0,.map none] 95)).alloc (.map #[] 0)).alloc (.cells #[.int .i64 N,.map (some (w.heap.size + 1))] 95)) (w.heap.size + 1) (w.heap.size + 1) []:=by
    have:=CmB.made N (w.alloc (.cells #[.int .i64 0,.map none] 95))
    rw [World.size_alloc] at this
    exact this.below ((Below.refl _ _).alloc (Nat.le_refl _) _)
  have hz0:(((w.alloc (.cells #[.int .i64 0,.map none] 95)).alloc (.map #[] 0)).alloc (.cells #[.int .i64 N,.map (some (w.heap.size + 1))] 95)).heap.size = w.heap.size + 3:=by simp
  have HB0:=hide hb0
  have HK0:=hide hk0
  have HK1:=hide hk1
  have HC0:=hide hc0
  have HZ0:=hide hz0
  clear hb0 hk0 hk1 hc0 hz0 F G
  go_enter Tryz.func68,Tryz.ntmps68
  go_upto_region 2 with fail
  generalize (((w.alloc (.cells #[.int .i64 0,.map none] 95)).alloc (.map #[] 0)).alloc (.cells #[.int .i64 N,.map (some (w.heap.size + 1))] 95)) = w1 at *
  clear hmm
  go_wp2_with fail
  refine (HI.out _).mono ?_
  rintro e w2 ⟨A,n,c,rfl,hs,hb⟩
  have hz:=HZ0.out
  have K0:=hide (HK0.out.below hb (by omega))
  have K1:=hide (HK1.out.below hb (by omega))
  have C0:=hide (HC0.out.below hb)
  have B0:=hide (HB0.out.trans (hb.mono (by omega)))
  have Z2:=hide (show w.heap.size + 3 ≤ w2.heap.size by have:=hb.size;omega)
  have HS:=hide hs
  clear hs hb hz HK0 HK1 HC0 HB0 HZ0 HI
  clear w1
  go_upto_region 3 with fail
  have hz2:=Z2.out
  refine wp_region_T (S:=fun w' => Below w2.heap.size w2 w') 3 (by kernel_rfl) (Below.refl _ _).drew (fun hS => ?_)
  refine wpT_tk 0 (v:=CV N (w.heap.size + 1)) rfl (by kernel_rfl) (by kernel_rfl) (by kernel_rfl) (by kernel_rfl) (yi rfl fun w' hw' => gives_loadRow rfl rfl (K1.out.below hw' (by omega)) Tryz.underlying95 (by kernel_rfl) (by kernel_rfl)) hS ?_
  go_frame
  refine wpT_tk 1 (v:=.slice A n c) rfl (by kernel_rfl) (by kernel_rfl) (by kernel_rfl) (by kernel_rfl) (yi rfl fun w' hw' => gives_move (.inl rfl) rfl) hS ?_
  go_frame
  refine wpT_1 2 rfl (by kernel_rfl) ?_
  refine wp_call (l:=[.const (.int .i64 1),.const (.int .i64 0)]) [.int .i64 1,.int .i64 0] rfl rfl eJterm rfl ?_
  refine (HT.out _).mono ?_
  rintro e w3 ⟨v,rfl,hv,hb3⟩
  have hS3:Below w2.heap.size w2 w3:=hS.trans hb3
  refine ⟨v,rfl,fun _ => hS3,?_⟩
  go_frame
  refine wpT_1 3 rfl (by kernel_rfl) ?_
  refine wp_call (l:=[.tmp 14,.tmp 15,.tmp 16]) [CV N (w.heap.size + 1),.slice A n c,v] rfl rfl eJadd rfl ?_
  refine (HA.out _ _ _ _ _ _ _ _ (HS.out.below hS3) hv (C0.out.below hS3)).mono ?_
  rintro e w4 ⟨rfl,hc4,hg4⟩
  refine ⟨_,rfl,fun h => absurd rfl h,?_⟩
  go_frame
  refine wpT_done (by kernel_rfl) (noPanic_mk ?_) _
  have hk0:=(K0.out.below hS3 (by omega)).grown hg4 (fun e => by injection e with e;omega)
  have hk1:=(K1.out.below hS3 (by omega)).grown hg4 (fun e => by injection e with e;omega)
  have hB4:Below w.heap.size w w4:=⟨hg4.os.trans (B0.out.trans (hS3.mono (by omega))).os,hg4.tape.trans (B0.out.trans (hS3.mono (by omega))).tape,hg4.output.trans (B0.out.trans (hS3.mono (by omega))).output,Nat.le_trans (B0.out.trans (hS3.mono (by omega))).size hg4.size,fun k hk => (hg4.block k (by have:=hS3.size;omega) (fun e => by injection e with e;omega)).trans ((B0.out.trans (hS3.mono (by omega))).block k hk)⟩
  have q0:=hk0.cell 0
  have q1:=hk0.cell 1
  have q2:=hk0.frozen 0
  have q3:=hk0.frozen 1
  have q4:=hk1.cell 0
  have q5:=hk1.cell 1
  simp at q0 q1 q4 q5
  have K04:=hide hk0
  have C4:=hide hc4
  have B4:=hide hB4
  clear hk0 hk1 hB4 hc4 hg4 hS3 hb3 hv hS K0 K1 C0 B0 HS HT HA
  go_wp2_with fail
  refine bodyPost_ret (results_comb rfl _ rfl ((K04.out.set_ 0 (.int .i64 N)).set_ 1 (.map (some (w.heap.size + 1))))) rfl ?_
  exact ⟨_,rfl,((C4.out.set_ (by omega)).set_ (by omega)).mono (by omega),(B4.out.setCell (p:=⟨w.heap.size,0,none⟩) (Nat.le_refl _) _).setCell (p:=⟨w.heap.size,1,none⟩) (Nat.le_refl _) _⟩
end Go.Proofs.YtndgffiihbdppaaGreatDoor
namespace Go.Proofs.YtndgffiihbdppaaGreatDoor
set_option linter.unusedVariables false
set_option linter.unusedSimpArgs false
open Go.RowKit Go.Maps

theorem SL.key {w:World} {g N:Nat} {d:List Nat} (h:Blk w g 113 (kyA d)) (hl:d.length = 2 * N) (h6:N ≤ 6):SL w (some ⟨g,0,none⟩) (2 * N) 12 (zs d):=
  ⟨⟨by rw [zs_length,hl],by omega,fun _ => ⟨⟨g,0,none⟩,rfl,h.lt,fun j hj => by
    have e:(⟨g,0,none⟩:Addr).add j = ⟨g,j,none⟩:=by unfold Addr.add;split <;> simp_all
    rw [e,h.cell j,kyA_get d j (by omega),zs_getD]⟩⟩,fun e => (by cases e),by omega⟩
theorem sizeK (d:List Nat):(Tryz.prog.info? 113).map (·.size) = some (kyA d).size:=by rw [kyA_size];kernel_rfl
theorem wpList_storeKy {ops:Array Oper} {rest:List Oper} {op:Oper} {a:Act} {w:World} {Q:Exit → Act → World → Prop} (hgd:op.guard = none) (x y:Operand) (ho:op.op = .store 113 x y)
    (g:Nat) (cs:Array Value) (d:List Nat) (hx:a.eval x = .pointer (some ⟨g,0,none⟩)) (hy:a.eval y = ky d) (hb:Blk w g 113 cs) (hsz:cs.size = 12)
    (h:wpList Tryz.prog ops Q rest (a.put op.dst undef) (w.setRow g (kyA d))):wpList Tryz.prog ops Q (op :: rest) a w:=
  wpList_plain hgd fun _ hK => by
    unfold Oper.wp execOp
    unfold ky at hy
    simp only [ho,hx,hy,Instr.storeAt,Instr.sureAddr,Sem.run_bind,Sem.run_pure,Result.andThen_ok,run_storeVar_row w g 113 113 cs (kyA d) hb (sizeK d) (by rw [kyA_size,hsz]) (kyA_one d)]
    exact hK _ _ h
theorem arrK:Tryz.prog.underlying 113 = some (.array (Tryz.prog.arrayLen 113) (Tryz.prog.elem 113)):=by kernel_rfl
theorem arrLenK:Tryz.prog.arrayLen 113 = 12:=by kernel_rfl
theorem arrElK:Tryz.prog.elem 113 = 3:=by kernel_rfl
theorem gives_key {o:Oper} {a:Act} {w:World} {x y:Operand} {g N:Nat} {h:Int} (ho:o.op = .slice 113 x none (some y) none) (hx:a.eval x = .pointer (some ⟨g,0,none⟩)) (hy:a.eval y = .int .i64 h) (hh:h = ((2 * N:Nat):Int)) (h6:N ≤ 6) :
    Gives Tryz.prog o a w (.slice (some ⟨g,0,none⟩) (2 * N) 12):=by
  subst hh
  unfold Gives execOp
  rw [ho]
  have hs:∀ w,(sizeOf 3).run Tryz.prog w = .ok 1 w:=fun w => by kernel_rfl
  have h2:=run_sliceAt_array_h (P:=Tryz.prog) w 113 ⟨g,0,none⟩ arrK .i64 ((2 * N:Nat):Int) (by omega) (by rw [arrLenK];omega)
  rw [arrLenK,arrElK,hs] at h2
  simp only [hx,Option.map,hy,Sem.run_bind,h2,Result.andThen_ok]
  unfold slicedAt
  have e:(⟨g,0,none⟩:Addr).add (0 * 1) = ⟨g,0,none⟩:=by unfold Addr.add;simp
  simp [e]
  omega
theorem stepO_length (n:Nat) (x:Int) (o:Cmb) (d:List Nat) (q:LP):(stepO n x o d q).length ≤ o.length + 2:=by
  unfold stepO addOj
  exact Nat.le_trans (putO_length _ _ _) (by have:=putO_length d (getO o d + q * LP.term (sgx x) 1) o;omega)
end Go.Proofs.YtndgffiihbdppaaGreatDoor
