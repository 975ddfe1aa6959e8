/- Several texts in one. -/
import Derived.Test.YtndgffiihbdppaaGreatDoorPart2
import Derived.Test.YtndgffiihbdppaaGreatDoorPart1
import Derived.Test.YtndgffiihbdppaaGreatDoorBase1
import Derived.Laws.CopyOwn
import Derived.Deep.OwnRows
import Derived.Deep.DeepCutAuto
import Derived.Deep.LoopGhost
namespace Go.Proofs.YtndgffiihbdppaaGreatDoor
set_option linter.unusedVariables false
set_option linter.unusedSimpArgs false
open Go.RowKit

theorem splice_map {f:Int → Value} (L:List Int) (off:Nat) (cs:List Int):splice (L.map f) off (cs.map f) = (splice L off cs).map f:=by
  simp [splice,List.map_take,List.map_drop]
def repZ (xs:List Int) (k n:Nat):List Int:=(rep xs k).take n ++ List.replicate ((rep xs k).length - n) 0
theorem repZ_length (xs:List Int) (k n:Nat) (h:n ≤ (rep xs k).length):(repZ xs k n).length = (rep xs k).length:=by
  simp [repZ];omega
theorem repZ_zero (xs:List Int) (k:Nat):repZ xs k 0 = List.replicate (rep xs k).length 0:=by simp [repZ]
theorem repZ_end (xs:List Int) (k:Nat):repZ xs k (rep xs k).length = rep xs k:=by simp [repZ]
theorem repZ_first (xs:List Int) (k:Nat) (hk:0 < k):splice (repZ xs k 0) 0 xs = repZ xs k xs.length:=by
  obtain ⟨k,rfl⟩:∃ j,k = j + 1:=⟨k - 1,by omega⟩
  simp [splice,repZ,rep_succ]
theorem repZ_step (xs:List Int) (k q m:Nat) (hq:q ≤ k) (hm:q * xs.length + m ≤ (rep xs k).length) (hmq:m ≤ q * xs.length) :
    splice (repZ xs k (q * xs.length)) (q * xs.length) ((rep xs k).take m) = repZ xs k (q * xs.length + m):=by
  have hl:=rep_length xs k
  have hlq:=rep_length xs q
  have e0:rep xs k = rep xs q ++ rep xs (k - q):=by rw [← rep_add];congr 1;omega
  have e0':rep xs k = rep xs (k - q) ++ rep xs q:=by rw [← rep_add];congr 1;omega
  have hl2:=rep_length xs (k - q)
  have e1:(rep xs k).take (q * xs.length) = rep xs q:=by rw [e0,List.take_append_of_le_length (by omega),List.take_of_length_le (by omega)]
  have hlen:(rep xs k).length = (rep xs q).length + (rep xs (k - q)).length:=by
    conv => lhs;rw [e0]
    exact List.length_append
  have e2:(rep xs k).take (q * xs.length + m) = rep xs q ++ (rep xs k).take m:=by
    conv => lhs;rw [e0]
    rw [List.take_append,List.take_of_length_le (by omega)]
    congr 1
    rw [e0',List.take_append_of_le_length (by omega)]
    congr 1
    omega
  unfold repZ
  rw [e1,e2]
  unfold splice
  rw [List.take_append_of_le_length (by omega),List.take_of_length_le (by omega),List.append_assoc]
  congr 1
  congr 1
  rw [List.drop_append,List.drop_of_length_le (by omega),List.nil_append,List.drop_replicate]
  congr 1
  simp only [List.length_take]
  omega
theorem OwnI.ofRow {w:World} {base g n:Nat} {xs:List Int} (hb:base ≤ g) (h:w.heap[g]? = some (.cells (xs.map (Value.int .i64)).toArray 3 (0,0))) (hn:xs.length = n) (hs:n ≤ 17592186044416):OwnI w base (some ⟨g,0,none⟩) n n xs:=by
  refine ⟨⟨by simpa using hn,.inr ⟨g,n,_,rfl,hb,h,Nat.le_refl _,by unfold maxLen;omega,?_,?_⟩⟩,hs⟩
  · simp [hn]
  · rw [← hn];exact List.take_of_length_le (by simp)
theorem il_ofRow {w:World} {g:Nat} {xs:List Int} (h:w.heap[g]? = some (.cells (xs.map (Value.int .i64)).toArray 3 (0,0))) (j:Nat) (v:Value) (m:Nat) (hv:((xs.take m).map (Value.int .i64))[j]? = some v):w.cell? ((⟨g,0,none⟩:Addr).add j) = some v:=by
  rw [add_zero_block,cell_of_row w g j _ _ _ h]
  have hj:=(List.getElem?_eq_some_iff.1 hv).1
  simp only [List.length_map,List.length_take] at hj
  rw [← hv]
  simp [List.getElem?_map,List.getElem?_take,show j < m by omega]
theorem ints_one (xs:List Int):∀ v ∈ xs.map (Value.int .i64),v.oneCell' = true:=by
  intro v hv
  obtain ⟨x,_,rfl⟩:=List.mem_map.1 hv
  rfl

theorem made_zeros (N:Nat):madeCells #[.int .i64 0] N = ((List.replicate N (0:Int)).map (Value.int .i64)).toArray:=by
  apply Array.ext
  · simp [size_madeCells]
  · intro i h1 h2
    simp [madeCells,Nat.mod_one]
theorem made_row (w:World) (xs:List Int) (k N:Nat) (h:(rep xs k).length = N):(w.alloc (.cells (madeCells #[.int .i64 0] N) 3)).heap[w.heap.size]? = some (.cells ((repZ xs k 0).map (Value.int .i64)).toArray 3 (0,0)):=by
  rw [repZ_zero,h,made_zeros]
  exact heap_alloc_new w _
theorem IL.cells_ {w:World} {A:Option Addr} {n:Nat} {xs:List Int} (h:IL w A n xs) (h0:0 < n):∃ ad,A = some ad ∧ ∀ j v,(xs.map (Value.int .i64))[j]? = some v → w.cell? (ad.add j) = some v:=by
  obtain ⟨ad,e,_,hc⟩:=h.mem h0
  refine ⟨ad,e,fun j v hv => ?_⟩
  have hj:=(List.getElem?_eq_some_iff.1 hv).1
  have hl:=h.len
  simp only [List.length_map] at hj
  rw [hc j (by omega),← hv,List.getElem?_map,List.getElem?_eq_getElem hj]
  simp [List.getD,List.getElem?_eq_getElem hj]

set_option maxRecDepth 100000 in
set_option maxHeartbeats 2000000 in
theorem repeat_any (A:Option Addr) (l c k:Nat) (xs:List Int) (w:World) (ha:IL w A l xs) (hlp:0 < l) (hk:0 < k) (hs:k * l ≤ 1000000) :
    Calls Tryz.prog 5 #[.slice A l c,.int .i64 k] w (GivesOwn w (rep xs k)):=by
  obtain ⟨N,hN⟩:∃ N,k * l = N:=⟨_,rfl⟩
  have hl:=ha.len
  have hNl:=rep_length xs k
  rw [hl,hN] at hNl
  have hlN:l ≤ N:=by rw [← hN];exact Nat.le_mul_of_pos_left l hk
  have hkN:k ≤ N:=by rw [← hN];exact Nat.le_mul_of_pos_right k hlp
  rw [hN] at hs
  have HN:=hide hN
  have HNL:=hide hNl
  have HL:=hide hl
  have HA:=hide ha
  have HM:Hid (∀ w,Calls Tryz.prog 12 #[.int .u64 l,.int .u64 k] w fun e w' => e = .returned (.tuple #[.int .u64 0,.int .u64 N]) ∧ w = w'):=fun w => by
    refine (bits_Mul l k (by omega) (by omega) w).mono ?_
    rintro e w' ⟨rfl,rfl⟩
    have e1:l * k = N:=by rw [Nat.mul_comm];exact HN.out
    rw [e1,show N / 18446744073709551616 = 0 by omega,show N % 18446744073709551616 = N by omega]
    exact ⟨rfl,rfl⟩
  obtain ⟨i0,hi0,hz0,hz1,hz2⟩:=info_parts int_info
  have h48:i0.bytes * N ≤ 281474976710656:=by rw [hz2];omega
  have HI0:=hide hi0
  have HZ0:=hide hz0
  have HZ1:=hide hz1
  have H48:=hide h48
  clear ha hl hNl hN hi0 hz0 hz1 hz2 h48
  go_enter Tryz.func5,Tryz.ntmps5
  have hd1:decide ((k:Int) < 0) = false:=by simp
  have hd2:decide ((9223372036854775807:Int) < (N:Int)) = false:=decide_eq_false (by omega)
  have HMR:=hide (made_row w xs k N HNL.out)
  have HAL:=hide (HA.out.alloc (.cells (madeCells #[.int .i64 0] N) 3))
  have HRF:Hid (splice ((repZ xs k 0).map (Value.int .i64)) 0 (xs.map (Value.int .i64)) = (repZ xs k l).map (Value.int .i64)):=by
    rw [splice_map,repZ_first xs k hk,HL.out]
    exact rfl
  have HI3:Hid ((Tryz.prog.info? 3).map (·.size) = some 1):=by
    rw [HI0.out]
    exact congrArg some HZ1.out
  have HB0:=hide ((Below.refl w.heap.size w).alloc (Nat.le_refl _) (.cells (madeCells #[.int .i64 0] N) 3))
  have HRL:∀ n,n ≤ N → Hid (((repZ xs k n).map (Value.int .i64)).length = N):=fun n hn => by
    rw [List.length_map,repZ_length xs k n (by rw [HNL.out];exact hn)]
    exact HNL.out
  have HXL:Hid ((xs.map (Value.int .i64)).length = l):=by rw [List.length_map];exact HL.out
  go_wp2_with (first | (go_at_call 12;refine (HM.out _).mono ?_;rintro e w' ⟨rfl,rfl⟩) | (at_make;refine wpList_make_row _ rfl _ _ 23 rfl 3 i0 (.int .i64 0) Tryz.underlying23 HI0.out HZ0.out HZ1.out rfl .i64 .i64 N rfl rfl H48.out (by omega) ?_) | ((with_reducible show wpList _ _ _ (Oper.mk _ (.call { callee:=.builtin .copy,args:=_,argTypes:=_ }) _ _ _ _ :: _) _ _);go_loud (refine wpList_copy_splice rfl (.tmp 31) (.tmp 32) 23 23 rfl 3 Tryz.underlying23 HI3.out (some ⟨w.heap.size,0,none⟩) A N N l c rfl rfl w.heap.size 0 ((repZ xs k 0).map (Value.int .i64)) 3 HMR.out (xs.map (Value.int .i64)) (by rw [HXL.out];exact (Nat.min_eq_left hlN).symm) (fun _ => ⟨rfl,HAL.out.cells_ hlp⟩) (by rw [HXL.out,(HRL 0 (Nat.zero_le _)).out];omega) (ints_one _) w.heap.size w HB0.out (Nat.le_refl _) ?_;intro w2 hg2 hb2;rw [HRF.out] at hg2;rw [HXL.out])))
  clear HMR HAL HB0 HRF
  go_loopw [8] (fun nv wr => ∃ q n:Nat,Hid (n < N → n = q * l ∧ q ≤ k) ∧ 0 < n ∧ n ≤ N ∧ nv = .int .i64 n ∧ Hid (wr.heap[w.heap.size]? = some (.cells ((repZ xs k n).map (Value.int .i64)).toArray 3 (0,0))) ∧ Below w.heap.size w wr) (fun nv _ => N - (intOf nv).toNat)
  case atStart => exact ⟨1,l,fun _ => ⟨(Nat.one_mul l).symm,hk⟩,hlp,hlN,rfl,hg2,hb2⟩
  case round =>
    clear hg2 hb2
    obtain ⟨q,n,HQ,hn0,hnN,rfl,HG,hb⟩:=hrel
    by_cases hlt:n < N
    · obtain ⟨m,hm⟩:∃ m,min n (N - n) = m:=⟨_,rfl⟩
      have hm1:0 < m:=by omega
      have hm2:m ≤ n:=by omega
      have hm3:n + m ≤ N:=by omega
      have HN2:Hid (n + m < N → n + m = (q + q) * l ∧ q + q ≤ k):=fun h => by
        have e:m = n:=by omega
        obtain ⟨e1,e2⟩:=HQ.out hlt
        subst e
        refine ⟨by rw [Nat.add_mul,← e1],?_⟩
        have h3:(q + q) * l < k * l:=by rw [Nat.add_mul,← e1,HN.out];exact h
        exact Nat.le_of_lt (Nat.lt_of_mul_lt_mul_right h3)
      have HS:Hid (splice ((repZ xs k n).map (Value.int .i64)) n (((rep xs k).take m).map (Value.int .i64)) = (repZ xs k (n + m)).map (Value.int .i64)):=by
        obtain ⟨e1,e2⟩:=HQ.out hlt
        have h2:=repZ_step xs k q m e2 (by rw [HL.out,HNL.out,← e1];exact hm3) (by rw [HL.out,← e1];exact hm2)
        rw [HL.out,← e1] at h2
        rw [splice_map,h2]
        exact rfl
      have HCL:Hid ((((rep xs k).take m).map (Value.int .i64)).length = m):=by
        rw [List.length_map,List.length_take,HNL.out]
        exact Nat.min_eq_left (by omega)
      have HSRC:Hid (∀ j v,(((rep xs k).take m).map (Value.int .i64))[j]? = some v → wr.cell? ((⟨w.heap.size,0,none⟩:Addr).add j) = some v):=by
        intro j v hv
        refine il_ofRow HG.out j v m ?_
        rw [← hv]
        congr 1
        congr 1
        unfold repZ
        rw [List.take_append_of_le_length (by rw [List.length_take,HNL.out];omega),List.take_take]
        congr 1
        omega
      have HB:=hide hb
      have HMM:Hid (m = Nat.min n (N - n)):=hide hm.symm
      have hne:¬ N = n:=by omega
      have hnN2:(n:Int) ≤ (N:Int):=by omega
      clear hb hm HQ
      go_wp2_with fail
      go_region_law (refine step_copy_splice rfl (.tmp 41) (.tmp 44) 23 23 rfl 3 Tryz.underlying23 HI3.out (some ⟨w.heap.size,n,none⟩) (some ⟨w.heap.size,0,none⟩) (N - n) (N - n) n N (by simp [Act.eval,Act.put,hne]) (by simp [Act.eval,Act.put]) w.heap.size n ((repZ xs k n).map (Value.int .i64)) 3 HG.out (((rep xs k).take m).map (Value.int .i64)) (by rw [HCL.out];exact HMM.out) (fun _ => ⟨rfl,_,rfl,HSRC.out⟩) (by rw [HCL.out,(HRL n hnN).out];omega) (ints_one _) w.heap.size w HB.out.drew (Nat.le_refl _) ?_;intro w2 hg2 hb2;rw [HS.out] at hg2;rw [HCL.out])
      show Exit.inBlock 1 _ Exit.normal (Act.put (Act.put _ (some 46) _) (some 8) _) _
      simp only [Act.put,List.setIfInBounds_toArray,List.set_cons_zero,List.set_cons_succ]
      go_roundw
      case rel =>
        have hnum:Value.int .i64 (IntKind.i64.wrap ((n:Int) + (m:Int))) = .int .i64 ((n + m:Nat):Int):=by
          rw [show IntKind.i64.wrap ((n:Int) + (m:Int)) = ((n + m:Nat):Int) by rw [IntKind.wrap_i64];omega]
        exact ⟨_,_,_,_,_,_,_,_,_,_,_,_,_,_,⟨q + q,n + m,HN2.out,by omega,hm3,hnum,hg2,hb2⟩,rfl⟩
      case measure => simp [intOf,IntKind.wrap_i64];omega
    · have HE:Hid (OwnI wr w.heap.size (some ⟨w.heap.size,0,none⟩) N N (rep xs k)):=by
        have e:n = N:=by omega
        have h2:=HG.out
        rw [e,← HNL.out,repZ_end] at h2
        exact OwnI.ofRow (Nat.le_refl _) h2 HNL.out (by omega)
      have HB:=hide hb
      clear hb HG HQ
      go_wp2_with fail
      go_ret
      exact ⟨_,_,_,rfl,HE.out,HB.out⟩
end Go.Proofs.YtndgffiihbdppaaGreatDoor
namespace Go.Proofs.YtndgffiihbdppaaGreatDoor
set_option linter.unusedVariables false
set_option linter.unusedSimpArgs false
open Go.RowKit

def GivesLE (w:World) (err:Int) (xs:List Int) (e:Ending) (w':World):Prop:=
  ∃ A n c,e = .returned (.tuple #[.slice A n c,.int .i64 err]) ∧ SL w' A n c xs ∧ Below w.heap.size w w'

def GivesLEn (w:World) (err:Int) (xs:List Int) (e:Ending) (w':World):Prop:=
  ∃ A n c,e = .returned (.tuple #[.slice A n c,.int .i64 err]) ∧ SL w' A n c xs ∧ (0 < n → ∀ ad,A = some ad → w.heap.size ≤ ad.block) ∧ Below w.heap.size w w'
theorem GivesLEn.le {w:World} {err:Int} {xs:List Int} {e:Ending} {w':World} (h:GivesLEn w err xs e w'):GivesLE w err xs e w':=by
  obtain ⟨A,n,c,h1,h2,_,h3⟩:=h
  exact ⟨A,n,c,h1,h2,h3⟩

end Go.Proofs.YtndgffiihbdppaaGreatDoor
namespace Go.Proofs.YtndgffiihbdppaaGreatDoor
set_option linter.unusedVariables false
set_option linter.unusedSimpArgs false
open Go.RowKit

def permE (n:Int) (w:List Int):List Int:=if bfault n w = 0 then zs (endsL n.toNat w) else []
def expoB (n:Int) (w:List Int):Int:=if bfault n w = 0 then LP.expo w else 0
def burE (n:Int) (w:List Int):Int:=if bfault n w = 0 then (if 16 < w.length then 2 else 0) else bfault n w
noncomputable def buL (n:Nat) (w:List Int):List (List Po):=(List.range n).map fun i => (List.range n).map fun j => cP (bu n w i j)
noncomputable def burL (n:Int) (w:List Int):List (List Po):=if burE n w = 0 then buL n.toNat w else []
def GivesMP (w:World) (err:Int) (pss:List (List Po)) (e:Ending) (w':World):Prop:=
  ∃ A n c,e = .returned (.tuple #[.slice A n c,.int .i64 err]) ∧ SPP w' A n c pss ∧ Below w.heap.size w w'
structure BraidC:Prop where
  check:∀ (m:Int) (A:Option Addr) (n c:Nat) (xs:List Int) (w:World),SL w A n c xs → (Lit.int .i64 m).wf = true → Calls Tryz.prog 13 #[.int .i64 m,.slice A n c] w fun e w' => e = .returned (.int .i64 (bfault m xs)) ∧ Below w.heap.size w w'
  perm:∀ (m:Int) (A:Option Addr) (n c:Nat) (xs:List Int) (w:World),SL w A n c xs → (Lit.int .i64 m).wf = true → Calls Tryz.prog 43 #[.int .i64 m,.slice A n c] w (GivesLE w (bfault m xs) (permE m xs))
  expo:∀ (m:Int) (A:Option Addr) (n c:Nat) (xs:List Int) (w:World),SL w A n c xs → (Lit.int .i64 m).wf = true → Calls Tryz.prog 46 #[.int .i64 m,.slice A n c] w fun e w' => e = .returned (.tuple #[.int .i64 (expoB m xs),.int .i64 (bfault m xs)]) ∧ Below w.heap.size w w'
  burau:∀ (m:Int) (A:Option Addr) (n c:Nat) (xs:List Int) (w:World),SL w A n c xs → (Lit.int .i64 m).wf = true → Calls Tryz.prog 35 #[.int .i64 m,.slice A n c] w (GivesMP w (burE m xs) (burL m xs))

end Go.Proofs.YtndgffiihbdppaaGreatDoor
namespace Go.Proofs.YtndgffiihbdppaaGreatDoor
set_option linter.unusedVariables false
set_option linter.unusedSimpArgs false
open LP CR

def insT (e c:Int):List Tm → List Tm
  | [] => [(e,c)]
  | p :: l => if e = p.1 then (p.1,p.2 + c) :: l else p :: insT e c l
def addT:List Tm → List Tm → List Tm
  | [],b => b
  | p :: a,b => insT p.1 p.2 (addT a b)
theorem coef_ins (e c k:Int):∀ l:List Tm,coefT (insT e c l) k = (if e = k then c else 0) + coefT l k
  | [] => rfl
  | p :: l => by
    unfold insT
    by_cases h:e = p.1
    · rw [if_pos h]
      show (if p.1 = k then p.2 + c else 0) + coefT l k = (if e = k then c else 0) + ((if p.1 = k then p.2 else 0) + coefT l k)
      rw [h]
      split <;> omega
    · rw [if_neg h]
      show (if p.1 = k then p.2 else 0) + coefT (insT e c l) k = (if e = k then c else 0) + ((if p.1 = k then p.2 else 0) + coefT l k)
      rw [coef_ins e c k l]
      omega
theorem coef_addT (k:Int):∀ a b:List Tm,coefT (addT a b) k = coefT a k + coefT b k
  | [],b => by show coefT b k = 0 + coefT b k;omega
  | p :: a,b => by
    show coefT (insT p.1 p.2 (addT a b)) k = ((if p.1 = k then p.2 else 0) + coefT a k) + coefT b k
    rw [coef_ins,coef_addT k a b]
    omega
theorem mk_addT (a b:List Tm):LP.mk (addT a b) = LP.mk a + LP.mk b:=LP.ext fun k => by
  rw [LP.co_add,LP.co_mk,LP.co_mk,LP.co_mk,coef_addT]
theorem mk_scaleT (e c:Int) (l:List Tm):LP.mk (scaleT e c l) = LP.term e c * LP.mk l:=LP.ext fun k => by
  rw [LP.co_term_mul,LP.co_mk,LP.co_mk,coefT_scale]
def stepL (x:Int) (col:List (List Tm)):List (List Tm):=
  (List.range col.length).map fun r =>
    if r + 1 = x.natAbs then (if 0 < x then addT (addT (col.getD r []) (scaleT 1 (-1) (col.getD r []))) (scaleT 1 1 (col.getD (r + 1) [])) else col.getD (r + 1) [])
    else if r = x.natAbs then (if 0 < x then col.getD (r - 1) [] else addT (scaleT (-1) 1 (col.getD (r - 1) [])) (addT (col.getD r []) (scaleT (-1) (-1) (col.getD r []))))
    else col.getD r []
def unitC (n c:Nat):List (List Tm):=(List.range n).map fun r => if r = c then [(0,1)] else []
theorem stepL_length (x:Int) (col:List (List Tm)):(stepL x col).length = col.length:=by simp [stepL]
theorem foldr_length (col:List (List Tm)):∀ u:List Int,(u.foldr stepL col).length = col.length
  | [] => rfl
  | x :: u => by rw [List.foldr_cons,stepL_length,foldr_length col u]
theorem neg_term (e c:Int) (x:LP):LP.term e (-c) * x = -(LP.term e c * x):=LP.ext fun k => by
  rw [LP.co_neg,LP.co_term_mul,LP.co_term_mul,Int.neg_mul]
theorem stepL_at {x:Int} {col:List (List Tm)} {A:Mtx LP} {n c:Nat} (hl:col.length = n) (hx:x ≠ 0) (hn:x.natAbs < n) (h:∀ r,r < n → A r c = LP.mk (col.getD r [])) {r:Nat} (hr:r < n) :
    opL x A r c = LP.mk ((stepL x col).getD r []):=by
  have e:(stepL x col).getD r [] = if r + 1 = x.natAbs then (if 0 < x then addT (addT (col.getD r []) (scaleT 1 (-1) (col.getD r []))) (scaleT 1 1 (col.getD (r + 1) [])) else col.getD (r + 1) [])
    else if r = x.natAbs then (if 0 < x then col.getD (r - 1) [] else addT (scaleT (-1) 1 (col.getD (r - 1) [])) (addT (col.getD r []) (scaleT (-1) (-1) (col.getD r []))))
    else col.getD r []:=by
    have hr2:r < col.length:=by omega
    simp only [stepL,List.getD,List.getElem?_map,List.getElem?_range hr2,Option.map_some,Option.getD_some]
  rw [e]
  unfold opL
  by_cases h0:0 < x
  · rw [if_pos h0,if_pos h0,if_pos h0]
    unfold opP
    by_cases h1:r + 1 = x.natAbs
    · rw [if_pos h1,if_pos h1,mk_addT,mk_addT,mk_scaleT,mk_scaleT,← h r hr,← h (r + 1) (by omega),neg_term,CR.add_mul,CR.one_mul,CR.neg_mul]
      rfl
    · rw [if_neg h1,if_neg h1]
      by_cases h2:r = x.natAbs
      · rw [if_pos h2,if_pos h2,h (r - 1) (by omega)]
      · rw [if_neg h2,if_neg h2,h r hr]
  · rw [if_neg h0,if_neg h0,if_neg h0]
    unfold opN
    by_cases h1:r + 1 = x.natAbs
    · rw [if_pos h1,if_pos h1,h (r + 1) (by omega)]
    · rw [if_neg h1,if_neg h1]
      by_cases h2:r = x.natAbs
      · rw [if_pos h2,if_pos h2,mk_addT,mk_addT,mk_scaleT,mk_scaleT,← h r hr,← h (r - 1) (by omega),neg_term,CR.add_mul,CR.one_mul,CR.neg_mul]
        rfl
      · rw [if_neg h2,if_neg h2,h r hr]
theorem bu_col {n c:Nat} (hc:c < n):∀ {u:List Int},okB n u → ∀ r,r < n → opW u oneM r c = LP.mk ((u.foldr stepL (unitC n c)).getD r [])
  | [],_,r,hr => by
    show (oneM:Mtx LP) r c = LP.mk ((unitC n c).getD r [])
    simp only [unitC,List.getD,List.getElem?_map,List.getElem?_range hr,Option.map_some,Option.getD_some]
    unfold oneM
    split <;> rfl
  | x :: u,h,r,hr => by
    have hx:=h x (by simp)
    exact stepL_at (x:=x) (by rw [foldr_length];simp [unitC]) hx.1 hx.2 (fun r hr => bu_col hc (fun y hy => h y (by simp [hy])) r hr) hr
def okCol (E V W:Nat) (col:List (List Tm)):Bool:=decide (sumK (fun r => sumA (col.getD r [])) col.length ≤ V) && col.all fun l => decide (sumA l ≤ W) && l.all fun p => decide (p.1.natAbs ≤ E)
def chkD (n E V W:Nat):Nat → List (List Tm) → Bool
  | 0,col => okCol E V W col
  | d + 1,col => okCol E V W col && (List.range n).all fun a => decide (a = 0) || (chkD n E V W d (stepL (a:Int) col) && chkD n E V W d (stepL (-(a:Int)) col))
theorem chkD_ok {n E V W:Nat}:∀ {d:Nat} {col:List (List Tm)},chkD n E V W d col = true → okCol E V W col = true
  | 0,_,h => h
  | d + 1,_,h => by
    unfold chkD at h
    exact (Bool.and_eq_true_iff.1 h).1
theorem chkD_sound {n E V W:Nat}:∀ (d:Nat) (col:List (List Tm)),chkD n E V W d col = true → ∀ u,okB n u → u.length ≤ d → okCol E V W (u.foldr stepL col) = true
  | d, col, h, u, hu, hl => by
    rcases List.eq_nil_or_concat u with e | ⟨v,y,e⟩
    · subst e
      exact chkD_ok h
    · have e2:u = v ++ [y]:=by simpa using e
      subst e2
      obtain ⟨d',rfl⟩:∃ d',d = d' + 1:=⟨d - 1,by simp at hl;omega⟩
      obtain ⟨hy0,hyn⟩:=hu y (by simp)
      unfold chkD at h
      have h2:=List.all_eq_true.1 (Bool.and_eq_true_iff.1 h).2 y.natAbs (List.mem_range.2 hyn)
      rw [decide_eq_false (by omega),Bool.false_or] at h2
      obtain ⟨h3,h4⟩:=Bool.and_eq_true_iff.1 h2
      rw [List.foldr_append]
      have h5:chkD n E V W d' (stepL y col) = true:=by
        by_cases hp:0 < y
        · rwa [show ((y.natAbs:Nat):Int) = y by omega] at h3
        · rwa [show -((y.natAbs:Nat):Int) = y by omega] at h4
      exact chkD_sound d' (stepL y col) h5 v (fun z hz => hu z (by simp [hz])) (by simp at hl;omega)
termination_by d => d
def smallB (E V W d:Nat):Bool:=(List.range 5).all fun n => decide (n < 2) || (List.range n).all fun c => chkD n E V W d (unitC n c)
theorem small4:smallB 4 23 12 4 = true:=by decide +kernel
theorem small1:smallB 1 3 2 1 = true:=by decide +kernel
theorem small_col {E V W d:Nat} (hs:smallB E V W d = true) {n:Nat} (h2:2 ≤ n) (h4:n ≤ 4) {u:List Int} (hu:okB n u) (hl:u.length ≤ d) {c:Nat} (hc:c < n):okCol E V W (u.foldr stepL (unitC n c)) = true:=by
  have h:=List.all_eq_true.1 hs n (List.mem_range.2 (by omega))
  rw [decide_eq_false (by omega),Bool.false_or] at h
  exact chkD_sound d _ (List.all_eq_true.1 h c (List.mem_range.2 hc)) u hu hl
theorem col_n1 {E V W d:Nat} (hs:smallB E V W d = true) {n:Nat} (h2:2 ≤ n) (h4:n ≤ 4) {u:List Int} (hu:okB n u) (hl:u.length ≤ d) :
    ∃ v:Nat → Nat → Nat,(∀ i,i < n → ∀ j,j < n → LP.N1 (bu n u j i) E (v i j) ∧ LP.N1 (bu n u j i) E W) ∧ ∀ i,i < n → sumK (v i) n ≤ V:=by
  refine ⟨fun i j => sumA ((u.foldr stepL (unitC n i)).getD j []),fun i hi j hj => ?_,fun i hi => ?_⟩
  · have h:=small_col hs h2 h4 hu hl hi
    unfold okCol at h
    have hln:(u.foldr stepL (unitC n i)).length = n:=by rw [foldr_length];simp [unitC]
    have hm:(u.foldr stepL (unitC n i)).getD j [] ∈ u.foldr stepL (unitC n i):=by
      rw [getD_of_lt [] (by omega)]
      exact List.getElem_mem _
    have h3:=List.all_eq_true.1 (Bool.and_eq_true_iff.1 h).2 _ hm
    obtain ⟨h5,h6⟩:=Bool.and_eq_true_iff.1 h3
    have e:LP.mk ((u.foldr stepL (unitC n i)).getD j []) = bu n u j i:=by rw [bu_op hu j hj i hi,bu_col hi hu j hj]
    have hE:∀ p ∈ (u.foldr stepL (unitC n i)).getD j [],p.1.natAbs ≤ E:=fun p hp => of_decide_eq_true (List.all_eq_true.1 h6 p hp)
    exact ⟨⟨_,e,hE,Nat.le_refl _⟩,⟨_,e,hE,of_decide_eq_true h5⟩⟩
  · have h:=small_col hs h2 h4 hu hl hi
    unfold okCol at h
    have hln:(u.foldr stepL (unitC n i)).length = n:=by rw [foldr_length];simp [unitC]
    have:=of_decide_eq_true (Bool.and_eq_true_iff.1 h).1
    rwa [hln] at this
theorem col_RN {E V W d:Nat} (hs:smallB E V W d = true) {n:Nat} (h2:2 ≤ n) (h4:n ≤ 4) {u:List Int} (hu:okB n u) (hl:u.length ≤ d):RN n (fun i j => bu n u j i) E V:=by
  obtain ⟨v,h1,h3⟩:=col_n1 hs h2 h4 hu hl
  exact ⟨v,fun i hi j hj => (h1 i hi j hj).1,h3⟩
theorem bu_small {n:Nat} (h2:2 ≤ n) (h4:n ≤ 4) {w:List Int} (hw:okB n w) (hl:w.length ≤ 9) {i j:Nat} (hi:i < n) (hj:j < n):LP.N1 (bu n w i j) 9 828:=by
  have e:w = w.take 4 ++ ((w.drop 4).take 4 ++ w.drop 8):=by
    have e1:=(List.take_append_drop 4 (w.drop 4)).symm
    rw [List.drop_drop] at e1
    rw [← e1,List.take_append_drop]
  have o1:okB n (w.take 4):=fun x hx => hw x (List.mem_of_mem_take hx)
  have o2:okB n ((w.drop 4).take 4):=fun x hx => hw x (List.mem_of_mem_drop (List.mem_of_mem_take hx))
  have o3:okB n (w.drop 8):=fun x hx => hw x (List.mem_of_mem_drop hx)
  obtain ⟨va,ha,_⟩:=col_n1 small4 h2 h4 o1 (by simp;omega)
  have hb:=col_RN small4 h2 h4 o2 (by simp;omega)
  have hc:=col_RN small1 h2 h4 o3 (by simp;omega)
  obtain ⟨v,h5,h6⟩:=hc.mul hb
  rw [e,bu_append n _ _ i hi j hj]
  show LP.N1 (sumN n fun k => bu n (w.take 4) i k * bu n ((w.drop 4).take 4 ++ w.drop 8) k j) 9 828
  have h7:∀ k,k < n → bu n ((w.drop 4).take 4 ++ w.drop 8) k j = mulM n (fun a b => bu n (w.drop 8) b a) (fun a b => bu n ((w.drop 4).take 4) b a) j k:=fun k hk => by
    rw [bu_append n _ _ k hk j hj]
    exact sumN_congr fun l _ => CR.mul_comm _ _
  refine (LP.N1.sumK (E:=9) (g:=fun k => 12 * v j k) fun k hk => ?_).mono (Nat.le_refl _) ?_
  · rw [h7 k hk]
    exact ((ha k hk i hi).2.mul (h5 j hj k hk)).mono (by omega) (Nat.le_refl _)
  · rw [sumK_mul]
    have:=h6 j hj
    omega
theorem canon_room {x:LP} {E:Nat} {V:Nat} (h:LP.N1 x E V):(LP.canon x).2.length ≤ 2 * E + 1 ∧ (LP.canon x).1.natAbs ≤ E ∧ ∀ c ∈ (LP.canon x).2,c.natAbs ≤ V:=by
  have hc:=LP.canon_cano x
  have ho:=LP.of_canon x
  refine ⟨?_,?_,fun c hcm => ?_⟩
  · by_cases hn:(LP.canon x).2 = []
    · rw [hn];simp
    · have h1:=hc.low hn
      have h2:=hc.high hn
      rw [ho] at h1 h2
      have h3:=h.supp h1
      have h4:=h.supp h2
      omega
  · by_cases hn:(LP.canon x).2 = []
    · rcases hc with h1 | h1
      · rw [h1.2];simp
      · exact absurd hn h1.1
    · have h1:=hc.low hn
      rw [ho] at h1
      exact h.supp h1
  · obtain ⟨k,hk,e⟩:=List.mem_iff_getElem.1 hcm
    have h1:=h.co ((LP.canon x).1 + k)
    have e3:=LP.co_of_at (lo:=(LP.canon x).1) hk
    rw [ho] at e3
    rw [e3,getD_of_lt 0 hk,e] at h1
    exact h1
end Go.Proofs.YtndgffiihbdppaaGreatDoor
namespace Go.Proofs.YtndgffiihbdppaaGreatDoor
set_option linter.unusedVariables false
set_option linter.unusedSimpArgs false
open CR

def stkR (A:Mtx LP) (p:Nat):Nat → LP:=fun j => if p < 100 then A p j else oneM (p - 100) j
def matQ (q:List Nat) (A:Mtx LP):Mtx LP:=fun i => stkR A (q.getD i 0)
def dN (N:Nat) (q:List Nat) (A:Mtx LP):LP:=detR N (matQ q A)
theorem getD_set_ne {q:List Nat} {r i p:Nat} (h:i ≠ r):(q.set r p).getD i 0 = q.getD i 0:=by
  simp only [List.getD,List.getElem?_set];rw [if_neg (Ne.symm h)]
theorem getD_set_eq {q:List Nat} {r p:Nat} (h:r < q.length):(q.set r p).getD r 0 = p:=by
  simp [List.getD,List.getElem?_set,h]
theorem dN_upd {N r:Nat} {q:List Nat} (hl:q.length = N) (hr:r < N) (A:Mtx LP) (p:Nat):dN N (q.set r p) A = detR N (updR (matQ q A) r (stkR A p)):=
  detR_congr fun i hi j hj => by
    unfold matQ
    by_cases h:i = r
    · subst h;rw [getD_set_eq (by omega),updR_same]
    · rw [getD_set_ne h,updR_ne _ _ h]
theorem dN_none {N:Nat} {q:List Nat} {A B:Mtx LP} (h:∀ i,i < N → stkR B (q.getD i 0) = stkR A (q.getD i 0)):dN N q B = dN N q A:=
  detR_congr fun i hi j _ => by unfold matQ;rw [h i hi]
theorem dN_one {N r:Nat} {q:List Nat} {A B:Mtx LP} (hl:q.length = N) (hr:r < N) (h:∀ i,i < N → i ≠ r → stkR B (q.getD i 0) = stkR A (q.getD i 0)) (c d:LP) (u v:Nat)
    (hB:stkR B (q.getD r 0) = fun j => c * stkR A u j + d * stkR A v j):dN N q B = c * dN N (q.set r u) A + d * dN N (q.set r v) A:=by
  have e:dN N q B = detR N (updR (matQ q A) r fun j => c * stkR A u j + d * stkR A v j):=detR_congr fun i hi j _ => by
    by_cases hir:i = r
    · subst hir;rw [updR_same];show stkR B (q.getD i 0) j = _;rw [hB]
    · rw [updR_ne _ _ hir];show stkR B (q.getD i 0) j = stkR A (q.getD i 0) j;rw [h i hi hir]
  rw [e,(detR_alt N).add _ r _ _ hr,(detR_alt N).smul _ r c _ hr,(detR_alt N).smul _ r d _ hr,dN_upd hl hr,dN_upd hl hr]
theorem dN_two {N r s:Nat} {q:List Nat} {A B:Mtx LP} (hr:r < N) (hs:s < N) (hne:r ≠ s) (h:∀ i,i < N → i ≠ r → i ≠ s → stkR B (q.getD i 0) = stkR A (q.getD i 0)) (c d:LP)
    (hBr:stkR B (q.getD r 0) = fun j => c * stkR A (q.getD r 0) j + d * stkR A (q.getD s 0) j) (hBs:stkR B (q.getD s 0) = stkR A (q.getD r 0)):dN N q B = -d * dN N q A:=by
  have e:dN N q B = detR N (updR (updR (matQ q A) s (stkR A (q.getD r 0))) r fun j => c * stkR A (q.getD r 0) j + d * stkR A (q.getD s 0) j):=detR_congr fun i hi j _ => by
    by_cases hir:i = r
    · subst hir;rw [updR_same];show stkR B (q.getD i 0) j = _;rw [hBr]
    · rw [updR_ne _ _ hir]
      by_cases his:i = s
      · subst his;rw [updR_same];show stkR B (q.getD i 0) j = _;rw [hBs]
      · rw [updR_ne _ _ his];show stkR B (q.getD i 0) j = stkR A (q.getD i 0) j;rw [h i hi hir his]
  have e2:updR (updR (matQ q A) s (stkR A (q.getD r 0))) r (stkR A (q.getD s 0)) = swapR (matQ q A) s r:=rfl
  have e3:detR N (updR (updR (matQ q A) s (stkR A (q.getD r 0))) r (stkR A (q.getD r 0))) = 0:=(detR_alt N).alt' _ hr hs hne fun j _ => by
    rw [updR_same,updR_ne _ _ (Ne.symm hne),updR_same]
  rw [e,(detR_alt N).add _ r _ _ hr,(detR_alt N).smul _ r c _ hr,(detR_alt N).smul _ r d _ hr,e3,CR.mul_zero,CR.zero_add,e2,(detR_alt N).swap _ hs hr (Ne.symm hne),CR.mul_neg,CR.neg_mul]
  rfl
theorem stk_opP_lo (t:LP) {a:Nat} (h1:1 ≤ a) (h2:a < 100) (A:Mtx LP):stkR (opP t a A) (a - 1) = fun j => (1 + -t) * stkR A (a - 1) j + t * stkR A a j:=by
  funext j
  simp only [stkR,opP]
  rw [if_pos (by omega),if_pos (by omega),if_pos (by omega),if_pos (by omega),show a - 1 + 1 = a by omega]
theorem stk_opP_hi (t:LP) {a:Nat} (h1:1 ≤ a) (h2:a < 100) (A:Mtx LP):stkR (opP t a A) a = stkR A (a - 1):=by
  funext j
  simp only [stkR,opP]
  rw [if_pos (by omega),if_neg (by omega),if_pos trivial,if_pos (by omega)]
theorem stk_opN_lo (t:LP) {a:Nat} (h1:1 ≤ a) (h2:a < 100) (A:Mtx LP):stkR (opN t a A) (a - 1) = stkR A a:=by
  funext j
  simp only [stkR,opN]
  rw [if_pos (by omega),if_pos (by omega),if_pos (by omega),show a - 1 + 1 = a by omega]
theorem stk_opN_hi (t:LP) {a:Nat} (h1:1 ≤ a) (h2:a < 100) (A:Mtx LP):stkR (opN t a A) a = fun j => (1 + -t) * stkR A a j + t * stkR A (a - 1) j:=by
  funext j
  simp only [stkR,opN]
  rw [if_pos (by omega),if_neg (by omega),if_pos trivial,if_pos (by omega),if_pos (by omega),CR.add_comm]
theorem stk_opP_ne (t:LP) {a p:Nat} (A:Mtx LP) (h1:p + 1 ≠ a) (h2:p ≠ a):stkR (opP t a A) p = stkR A p:=by
  funext j
  simp only [stkR,opP]
  rw [if_neg h1,if_neg h2]
theorem stk_opN_ne (t:LP) {a p:Nat} (A:Mtx LP) (h1:p + 1 ≠ a) (h2:p ≠ a):stkR (opN t a A) p = stkR A p:=by
  funext j
  simp only [stkR,opN]
  rw [if_neg h1,if_neg h2]

/-! ### rows given by sets -/
def onesT (T:Nat):List Nat:=(List.range 6).filter fun b => T.testBit b
def popS (S i:Nat):Nat:=(List.range i).countP fun b => S.testBit b
def qST (N S T:Nat):List Nat:=(List.range N).map fun i => if S.testBit i then (onesT T).getD (popS S i) 0 else 100 + i
def goodB (N S T:Nat):Bool:=decide (T < 2 ^ (N + 1)) && ((onesT T).length == popS S N)
def onlyB (q:List Nat) (p r:Nat):Bool:=decide (r < q.length) && ((q.getD r 0 == p) && (List.range q.length).all fun i => (i == r) || (q.getD i 0 != p))
def noneB (q:List Nat) (p:Nat):Bool:=(List.range q.length).all fun i => q.getD i 0 != p
def selS (N S T a:Nat):Bool:=
  let q:=qST N S T
  if T.testBit (a - 1) then
    (if T.testBit a then onlyB q (a - 1) (q.idxOf (a - 1)) && onlyB q a (q.idxOf a)
     else onlyB q (a - 1) (q.idxOf (a - 1)) && (noneB q a && (goodB N S (T + 2 ^ (a - 1)) && (q.set (q.idxOf (a - 1)) a == qST N S (T + 2 ^ (a - 1))))))
  else (if T.testBit a then noneB q (a - 1) && (onlyB q a (q.idxOf a) && (goodB N S (T - 2 ^ (a - 1)) && (q.set (q.idxOf a) (a - 1) == qST N S (T - 2 ^ (a - 1)))))
     else noneB q (a - 1) && noneB q a)
def selAll:Bool:=(List.range 6).all fun N => (List.range (2 ^ N)).all fun S => (List.range (2 ^ (N + 1))).all fun T => !goodB N S T || (List.range (N + 1)).all fun a => (a == 0) || selS N S T a
theorem sel_all:selAll = true:=by decide +kernel
theorem sel_at {N S T a:Nat} (hN:N ≤ 5) (hS:S < 2 ^ N) (hg:goodB N S T = true) (h1:1 ≤ a) (ha:a ≤ N):selS N S T a = true:=by
  have hT:T < 2 ^ (N + 1):=of_decide_eq_true (Bool.and_eq_true_iff.1 hg).1
  have h:=List.all_eq_true.1 (List.all_eq_true.1 (List.all_eq_true.1 sel_all N (List.mem_range.2 (by omega))) S (List.mem_range.2 hS)) T (List.mem_range.2 hT)
  rw [hg,Bool.not_true,Bool.false_or] at h
  have h2:=List.all_eq_true.1 h a (List.mem_range.2 (by omega))
  rwa [show (a == 0) = false by simp;omega,Bool.false_or] at h2
theorem onlyB_out {q:List Nat} {p r:Nat} (h:onlyB q p r = true):r < q.length ∧ q.getD r 0 = p ∧ ∀ i,i < q.length → i ≠ r → q.getD i 0 ≠ p:=by
  obtain ⟨h1,h2⟩:=Bool.and_eq_true_iff.1 h
  obtain ⟨h2,h3⟩:=Bool.and_eq_true_iff.1 h2
  refine ⟨of_decide_eq_true h1,by simpa using h2,fun i hi hne => ?_⟩
  have:=List.all_eq_true.1 h3 i (List.mem_range.2 hi)
  simp at this
  rcases this with h | h
  · exact absurd h hne
  · exact h
theorem noneB_out {q:List Nat} {p:Nat} (h:noneB q p = true):∀ i,i < q.length → q.getD i 0 ≠ p:=fun i hi => by
  have:=List.all_eq_true.1 h i (List.mem_range.2 hi)
  simpa using this
theorem qST_length (N S T:Nat):(qST N S T).length = N:=by simp [qST]
def wST (N S T:Nat) (A:Mtx LP):LP:=dN N (qST N S T) A
def stepMn (x:Int) (T:Nat):List (Nat × List Tm):=
  if T.testBit (x.natAbs - 1) then
    (if T.testBit x.natAbs then [(T,[(if 0 < x then 1 else -1,-1)])]
     else if 0 < x then [(T,[(0,1),(1,-1)]),(T + 2 ^ (x.natAbs - 1),[(1,1)])] else [(T + 2 ^ (x.natAbs - 1),[(0,1)])])
  else (if T.testBit x.natAbs then (if 0 < x then [(T - 2 ^ (x.natAbs - 1),[(0,1)])] else [(T,[(0,1),(-1,-1)]),(T - 2 ^ (x.natAbs - 1),[(-1,1)])])
     else [(T,[(0,1)])])
def valV (N S:Nat) (A:Mtx LP):List (Nat × List Tm) → LP
  | [] => 0
  | p :: v => LP.mk p.2 * wST N S p.1 A + valV N S A v
theorem mk_one:LP.mk [(0,1)] = 1:=rfl
theorem mk_tT:LP.mk [(1,1)] = tT:=rfl
theorem mk_tI:LP.mk [(-1,1)] = tI:=rfl
theorem mk_1t:LP.mk [(0,1),(1,-1)] = 1 + -tT:=LP.ext fun k => by
  unfold tT
  rw [LP.co_add,LP.co_neg,LP.co_one,LP.co_term,LP.co_mk]
  show (if (0:Int) = k then (1:Int) else 0) + ((if (1:Int) = k then (-1:Int) else 0) + 0) = _
  grind
theorem mk_1i:LP.mk [(0,1),(-1,-1)] = 1 + -tI:=LP.ext fun k => by
  unfold tI
  rw [LP.co_add,LP.co_neg,LP.co_one,LP.co_term,LP.co_mk]
  show (if (0:Int) = k then (1:Int) else 0) + ((if (-1:Int) = k then (-1:Int) else 0) + 0) = _
  grind
theorem mk_nt:LP.mk [(1,-1)] = -tT:=LP.ext fun k => by
  unfold tT
  rw [LP.co_neg,LP.co_term,LP.co_mk]
  show (if (1:Int) = k then (-1:Int) else 0) + 0 = _
  grind
theorem mk_ni:LP.mk [(-1,-1)] = -tI:=LP.ext fun k => by
  unfold tI
  rw [LP.co_neg,LP.co_term,LP.co_mk]
  show (if (-1:Int) = k then (-1:Int) else 0) + 0 = _
  grind
theorem stepMn_good {N S T:Nat} {x:Int} (hN:N ≤ 5) (hS:S < 2 ^ N) (hg:goodB N S T = true) (h0:x ≠ 0) (hx:x.natAbs ≤ N):∀ p ∈ stepMn x T,goodB N S p.1 = true:=by
  have h:=sel_at hN hS hg (show 1 ≤ x.natAbs by omega) hx
  unfold selS at h
  unfold stepMn
  intro p hp
  by_cases hlo:T.testBit (x.natAbs - 1) = true
  · simp only [hlo,if_true] at h hp
    by_cases hhi:T.testBit x.natAbs = true
    · simp only [hhi,if_true] at hp
      simp at hp;rw [hp];exact hg
    · simp only [hhi,if_false,Bool.false_eq_true] at h hp
      have hg2:=(Bool.and_eq_true_iff.1 (Bool.and_eq_true_iff.1 (Bool.and_eq_true_iff.1 h).2).2).1
      split at hp
      · simp at hp
        rcases hp with rfl | rfl
        · exact hg
        · exact hg2
      · simp at hp;rw [hp];exact hg2
  · simp only [hlo,if_false,Bool.false_eq_true] at h hp
    by_cases hhi:T.testBit x.natAbs = true
    · simp only [hhi,if_true] at h hp
      have hg2:=(Bool.and_eq_true_iff.1 (Bool.and_eq_true_iff.1 (Bool.and_eq_true_iff.1 h).2).2).1
      split at hp
      · simp at hp;rw [hp];exact hg2
      · simp at hp
        rcases hp with rfl | rfl
        · exact hg
        · exact hg2
    · simp only [hhi,if_false,Bool.false_eq_true] at hp
      simp at hp;rw [hp];exact hg
theorem wST_step {N S T:Nat} {x:Int} (hN:N ≤ 5) (hS:S < 2 ^ N) (hg:goodB N S T = true) (h0:x ≠ 0) (hx:x.natAbs ≤ N) (A:Mtx LP):wST N S T (opL x A) = valV N S A (stepMn x T):=by
  have h:=sel_at hN hS hg (show 1 ≤ x.natAbs by omega) hx
  have hl:=qST_length N S T
  unfold selS at h
  unfold stepMn wST opL
  have h1:1 ≤ x.natAbs:=by omega
  have h2:x.natAbs < 100:=by omega
  obtain ⟨a,ha⟩:∃ a,x.natAbs = a:=⟨_,rfl⟩
  rw [ha] at h h1 h2 hx ⊢
  generalize hq:qST N S T = q at *
  by_cases hlo:T.testBit (a - 1) = true
  · simp only [hlo,if_true] at h ⊢
    by_cases hhi:T.testBit a = true
    · simp only [hhi,if_true] at h ⊢
      obtain ⟨r1,r2,r3⟩:=onlyB_out (Bool.and_eq_true_iff.1 h).1
      obtain ⟨s1,s2,s3⟩:=onlyB_out (Bool.and_eq_true_iff.1 h).2
      generalize q.idxOf (a - 1) = r at *
      generalize q.idxOf a = s at *
      rw [hl] at r1 r3 s1 s3
      have hne:r ≠ s:=fun e => by subst e;omega
      have ho:∀ i,i < N → i ≠ r → i ≠ s → q.getD i 0 + 1 ≠ a ∧ q.getD i 0 ≠ a:=fun i hi e1 e2 => by have:=r3 i hi e1;have:=s3 i hi e2;omega
      by_cases h0x:0 < x
      · rw [if_pos h0x]
        simp only [h0x,if_true]
        rw [dN_two (r:=r) (s:=s) (A:=A) r1 s1 hne (fun i hi e1 e2 => stk_opP_ne _ _ (ho i hi e1 e2).1 (ho i hi e1 e2).2) (1 + -tT) tT (by rw [r2,s2];exact stk_opP_lo _ h1 h2 _) (by rw [r2,s2];exact stk_opP_hi _ h1 h2 _)]
        show _ = LP.mk [(1,-1)] * dN N (qST N S T) A + 0
        rw [hq,mk_nt,CR.add_zero]
      · rw [if_neg h0x]
        simp only [h0x,if_false]
        rw [dN_two (r:=s) (s:=r) (A:=A) s1 r1 (Ne.symm hne) (fun i hi e1 e2 => stk_opN_ne _ _ (ho i hi e2 e1).1 (ho i hi e2 e1).2) (1 + -tI) tI (by rw [r2,s2];exact stk_opN_hi _ h1 h2 _) (by rw [r2,s2];exact stk_opN_lo _ h1 h2 _)]
        show _ = LP.mk [(-1,-1)] * dN N (qST N S T) A + 0
        rw [hq,mk_ni,CR.add_zero]
    · simp only [hhi,if_false,Bool.false_eq_true] at h ⊢
      obtain ⟨r1,r2,r3⟩:=onlyB_out (Bool.and_eq_true_iff.1 h).1
      have s3:=noneB_out (Bool.and_eq_true_iff.1 (Bool.and_eq_true_iff.1 h).2).1
      have e:=(Bool.and_eq_true_iff.1 (Bool.and_eq_true_iff.1 (Bool.and_eq_true_iff.1 h).2).2).2
      generalize q.idxOf (a - 1) = r at *
      rw [hl] at r1 r3 s3
      have e':q.set r a = qST N S (T + 2 ^ (a - 1)):=by simpa using e
      have es:q.set r (a - 1) = q:=by rw [← r2];exact List.ext_getElem (by simp) fun i h1 h2 => by simp [List.getElem_set,List.getD];intro hh;subst hh;simp [h2]
      have ho:∀ i,i < N → i ≠ r → q.getD i 0 + 1 ≠ a ∧ q.getD i 0 ≠ a:=fun i hi e1 => by have:=r3 i hi e1;have:=s3 i hi;omega
      by_cases h0x:0 < x
      · rw [if_pos h0x]
        simp only [h0x,if_true]
        rw [dN_one (r:=r) (A:=A) hl r1 (fun i hi e1 => stk_opP_ne _ _ (ho i hi e1).1 (ho i hi e1).2) (1 + -tT) tT (a - 1) a (by rw [r2];exact stk_opP_lo _ h1 h2 _)]
        show _ = LP.mk [(0,1),(1,-1)] * dN N (qST N S T) A + (LP.mk [(1,1)] * dN N (qST N S (T + 2 ^ (a - 1))) A + 0)
        rw [hq,mk_1t,mk_tT,CR.add_zero,es,e']
      · rw [if_neg h0x]
        simp only [h0x,if_false]
        rw [dN_one (r:=r) (A:=A) hl r1 (fun i hi e1 => stk_opN_ne _ _ (ho i hi e1).1 (ho i hi e1).2) 1 0 a a (by rw [r2,stk_opN_lo _ h1 h2];funext j;rw [CR.one_mul,CR.zero_mul,CR.add_zero])]
        show _ = LP.mk [(0,1)] * dN N (qST N S (T + 2 ^ (a - 1))) A + 0
        rw [mk_one,CR.one_mul,CR.one_mul,CR.zero_mul,e']
  · simp only [hlo,if_false,Bool.false_eq_true] at h ⊢
    by_cases hhi:T.testBit a = true
    · simp only [hhi,if_true] at h ⊢
      have r3:=noneB_out (Bool.and_eq_true_iff.1 h).1
      obtain ⟨s1,s2,s3⟩:=onlyB_out (Bool.and_eq_true_iff.1 (Bool.and_eq_true_iff.1 h).2).1
      have e:=(Bool.and_eq_true_iff.1 (Bool.and_eq_true_iff.1 (Bool.and_eq_true_iff.1 h).2).2).2
      generalize q.idxOf a = s at *
      rw [hl] at r3 s1 s3
      have e':q.set s (a - 1) = qST N S (T - 2 ^ (a - 1)):=by simpa using e
      have es:q.set s a = q:=by rw [← s2];exact List.ext_getElem (by simp) fun i h1 h2 => by simp [List.getElem_set,List.getD];intro hh;subst hh;simp [h2]
      have ho:∀ i,i < N → i ≠ s → q.getD i 0 + 1 ≠ a ∧ q.getD i 0 ≠ a:=fun i hi e1 => by have:=s3 i hi e1;have:=r3 i hi;omega
      by_cases h0x:0 < x
      · rw [if_pos h0x]
        simp only [h0x,if_true]
        rw [dN_one (r:=s) (A:=A) hl s1 (fun i hi e1 => stk_opP_ne _ _ (ho i hi e1).1 (ho i hi e1).2) 1 0 (a - 1) (a - 1) (by rw [s2,stk_opP_hi _ h1 h2];funext j;rw [CR.one_mul,CR.zero_mul,CR.add_zero])]
        show _ = LP.mk [(0,1)] * dN N (qST N S (T - 2 ^ (a - 1))) A + 0
        rw [mk_one,CR.one_mul,CR.one_mul,CR.zero_mul,e']
      · rw [if_neg h0x]
        simp only [h0x,if_false]
        rw [dN_one (r:=s) (A:=A) hl s1 (fun i hi e1 => stk_opN_ne _ _ (ho i hi e1).1 (ho i hi e1).2) (1 + -tI) tI a (a - 1) (by rw [s2];exact stk_opN_hi _ h1 h2 _)]
        show _ = LP.mk [(0,1),(-1,-1)] * dN N (qST N S T) A + (LP.mk [(-1,1)] * dN N (qST N S (T - 2 ^ (a - 1))) A + 0)
        rw [hq,mk_1i,mk_tI,CR.add_zero,es,e']
    · simp only [hhi,if_false,Bool.false_eq_true] at h ⊢
      have r3:=noneB_out (Bool.and_eq_true_iff.1 h).1
      have s3:=noneB_out (Bool.and_eq_true_iff.1 h).2
      rw [hl] at r3 s3
      have ho:∀ i,i < N → q.getD i 0 + 1 ≠ a ∧ q.getD i 0 ≠ a:=fun i hi => by have:=r3 i hi;have:=s3 i hi;omega
      by_cases h0x:0 < x
      · rw [if_pos h0x,dN_none fun i hi => stk_opP_ne _ _ (ho i hi).1 (ho i hi).2]
        show _ = LP.mk [(0,1)] * dN N (qST N S T) A + 0
        rw [hq,mk_one,CR.one_mul,CR.add_zero]
      · rw [if_neg h0x,dN_none fun i hi => stk_opN_ne _ _ (ho i hi).1 (ho i hi).2]
        show _ = LP.mk [(0,1)] * dN N (qST N S T) A + 0
        rw [hq,mk_one,CR.one_mul,CR.add_zero]
end Go.Proofs.YtndgffiihbdppaaGreatDoor
