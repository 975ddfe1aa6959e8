/- Several texts in one. -/
import Derived.Test.YtndgffiihbdppaaGreatDoorPart3
import Derived.Test.YtndgffiihbdppaaGreatDoorPart1
import Derived.Test.YtndgffiihbdppaaGreatDoorBase1
import Derived.Test.YtndgffiihbdppaaGreatDoorPart2
namespace Go.Proofs.YtndgffiihbdppaaGreatDoor
set_option linter.unusedVariables false
set_option linter.unusedSimpArgs false
open LP CR

def insV (T:Nat) (l:List Tm):List (Nat × List Tm) → List (Nat × List Tm)
  | [] => [(T,l)]
  | p :: v => bif Nat.beq T p.1 then (p.1,addT l p.2) :: v else p :: insV T l v
def mulF (l:List Tm):List Tm → List Tm
  | [] => []
  | t :: o => addT (scaleT t.1 t.2 l) (mulF l o)
def addO (l:List Tm):List (Nat × List Tm) → List (Nat × List Tm) → List (Nat × List Tm)
  | [],acc => acc
  | o :: os,acc => insV o.1 (mulF l o.2) (addO l os acc)
def stepV (x:Int):List (Nat × List Tm) → List (Nat × List Tm)
  | [] => []
  | p :: v => addO p.2 (stepMn x p.1) (stepV x v)
theorem val_insV (N S:Nat) (A:Mtx LP) (T:Nat) (l:List Tm):∀ v,valV N S A (insV T l v) = LP.mk l * wST N S T A + valV N S A v
  | [] => rfl
  | p :: v => by
    unfold insV
    by_cases h:Nat.beq T p.1 = true
    · rw [h,cond_true]
      have e:T = p.1:=Nat.eq_of_beq_eq_true h
      show LP.mk (addT l p.2) * wST N S p.1 A + valV N S A v = LP.mk l * wST N S T A + (LP.mk p.2 * wST N S p.1 A + valV N S A v)
      rw [mk_addT,CR.add_mul,← CR.add_assoc,e]
    · rw [show Nat.beq T p.1 = false from (Bool.not_eq_true _).mp h,cond_false]
      show LP.mk p.2 * wST N S p.1 A + valV N S A (insV T l v) = LP.mk l * wST N S T A + (LP.mk p.2 * wST N S p.1 A + valV N S A v)
      rw [val_insV N S A T l v]
      ac_rfl
theorem mk_consT (t:Tm) (o:List Tm):LP.mk (t :: o) = LP.term t.1 t.2 + LP.mk o:=LP.ext fun k => by
  rw [LP.co_add,LP.co_mk,LP.co_mk,LP.co_term]
  show (if t.1 = k then t.2 else 0) + coefT o k = _
  grind
theorem mk_mulF (l:List Tm):∀ o,LP.mk (mulF l o) = LP.mk l * LP.mk o
  | [] => by show (0:LP) = LP.mk l * 0;rw [CR.mul_zero]
  | t :: o => by
    unfold mulF
    rw [mk_addT,mk_scaleT,mk_mulF l o,mk_consT t o,CR.mul_add,CR.mul_comm (LP.term t.1 t.2)]
theorem val_addO (N S:Nat) (A:Mtx LP) (l:List Tm) (acc:List (Nat × List Tm)):∀ os,valV N S A (addO l os acc) = LP.mk l * valV N S A os + valV N S A acc
  | [] => by show _ = LP.mk l * 0 + _;rw [CR.mul_zero,CR.zero_add];rfl
  | o :: os => by
    show valV N S A (insV o.1 (mulF l o.2) (addO l os acc)) = LP.mk l * (LP.mk o.2 * wST N S o.1 A + valV N S A os) + _
    rw [val_insV,val_addO N S A l acc os,mk_mulF,CR.mul_add,CR.mul_assoc,CR.add_assoc]
def goodV (N S:Nat) (v:List (Nat × List Tm)):Prop:=∀ p ∈ v,goodB N S p.1 = true
theorem good_insV {N S T:Nat} {l:List Tm} (hT:goodB N S T = true):∀ {v},goodV N S v → goodV N S (insV T l v)
  | [],_ => fun p hp => by simp [insV] at hp;rw [hp];exact hT
  | p :: v,h => by
    unfold insV
    by_cases e:Nat.beq T p.1 = true
    · rw [e,cond_true]
      intro q hq
      rcases List.mem_cons.1 hq with rfl | hq
      · exact h p (by simp)
      · exact h q (by simp [hq])
    · rw [show Nat.beq T p.1 = false from (Bool.not_eq_true _).mp e,cond_false]
      intro q hq
      rcases List.mem_cons.1 hq with rfl | hq
      · exact h _ (by simp)
      · exact good_insV hT (fun r hr => h r (by simp [hr])) q hq
theorem good_addO {N S:Nat} {l:List Tm} {acc:List (Nat × List Tm)} (ha:goodV N S acc):∀ {os},goodV N S os → goodV N S (addO l os acc)
  | [],_ => ha
  | o :: os,h => good_insV (h o (by simp)) (good_addO ha fun p hp => h p (by simp [hp]))
theorem good_stepV {N S:Nat} {x:Int} (hN:N ≤ 5) (hS:S < 2 ^ N) (h0:x ≠ 0) (hx:x.natAbs ≤ N):∀ {v},goodV N S v → goodV N S (stepV x v)
  | [],_ => fun p hp => by simp [stepV] at hp
  | p :: v,h => good_addO (good_stepV hN hS h0 hx fun q hq => h q (by simp [hq])) (stepMn_good hN hS (h p (by simp)) h0 hx)
theorem val_stepV {N S:Nat} {x:Int} (hN:N ≤ 5) (hS:S < 2 ^ N) (h0:x ≠ 0) (hx:x.natAbs ≤ N) (A:Mtx LP):∀ {v},goodV N S v → valV N S (opL x A) v = valV N S A (stepV x v)
  | [],_ => rfl
  | p :: v,h => by
    show LP.mk p.2 * wST N S p.1 (opL x A) + valV N S (opL x A) v = valV N S A (addO p.2 (stepMn x p.1) (stepV x v))
    rw [val_addO,wST_step hN hS (h p (by simp)) h0 hx,val_stepV hN hS h0 hx A fun q hq => h q (by simp [hq])]
def vecW (T:Nat) (u:List Int):List (Nat × List Tm):=u.foldl (fun v x => stepV x v) [(T,[(0,1)])]
theorem val_word {N S:Nat} (hN:N ≤ 5) (hS:S < 2 ^ N) (A:Mtx LP):∀ {u:List Int} {v},okB (N + 1) u → goodV N S v → valV N S (opW u A) v = valV N S A (u.foldl (fun v x => stepV x v) v) ∧ goodV N S (u.foldl (fun v x => stepV x v) v)
  | [],v,_,h => ⟨rfl,h⟩
  | x :: u,v,hu,h => by
    obtain ⟨h0,h1⟩:=hu x (by simp)
    show valV N S (opL x (opW u A)) v = valV N S A (u.foldl (fun v x => stepV x v) (stepV x v)) ∧ _
    rw [val_stepV hN hS h0 (by omega) _ h]
    exact val_word hN hS A (fun y hy => hu y (by simp [hy])) (good_stepV hN hS h0 (by omega) h)
theorem wST_word {N S T:Nat} (hN:N ≤ 5) (hS:S < 2 ^ N) (hg:goodB N S T = true) {u:List Int} (hu:okB (N + 1) u) (A:Mtx LP):wST N S T (opW u A) = valV N S A (vecW T u) ∧ goodV N S (vecW T u):=by
  have hv:goodV N S [(T,[(0,1)])]:=fun p hp => by simp at hp;rw [hp];exact hg
  have h:=val_word hN hS A hu hv
  refine ⟨?_,h.2⟩
  unfold vecW
  rw [← h.1]
  show _ = LP.mk [(0,1)] * wST N S T (opW u A) + 0
  rw [mk_one,CR.one_mul,CR.add_zero]

/-! ### the check -/
def sumV:List (Nat × List Tm) → Nat
  | [] => 0
  | p :: v => sumA p.2 + sumV v
def supV (E M:Nat) (v:List (Nat × List Tm)):Bool:=v.all fun p => p.2.all fun t => decide (t.1.natAbs ≤ E) && decide (t.2.natAbs ≤ M)
def k3 (k:Nat):Nat:=match k with | 0 => 1 | 1 => 13 | 2 => 21 | 3 => 27 | 4 => 21 | 5 => 13 | _ => 1
def k1 (k:Nat):Nat:=match k with | 0 => 1 | 6 => 1 | _ => 3
def ndV:List (Nat × List Tm) → Bool
  | [] => true
  | p :: v => (v.all fun q => !Nat.beq q.1 p.1) && ndV v
def okV (E M K:Nat) (v:List (Nat × List Tm)):Bool:=decide (sumV v ≤ K) && (supV E M v && ndV v)
def ltr (i:Nat):Int:=if i < 5 then ((i + 1:Nat):Int) else -((i - 4:Nat):Int)
def chkV (E M:Nat):Nat → Nat → List (Nat × List Tm) → Bool
  | 0,K,v => okV E M K v
  | d + 1,K,v => okV E M K v && (List.range 10).all fun i => chkV E M d K (stepV (ltr i) v)
def pop (T:Nat):Nat:=(onesT T).length
def chk3 (lo hi:Nat):Bool:=(List.range (hi - lo)).all fun i => chkV 3 3 3 (k3 (pop (lo + i))) [(lo + i,[(0,1)])]
theorem ltr_all {x:Int} (h0:x ≠ 0) (h:x.natAbs ≤ 5):∃ i,i < 10 ∧ ltr i = x:=by
  by_cases hx:0 < x
  · exact ⟨x.natAbs - 1,by omega,by unfold ltr;rw [if_pos (by omega)];omega⟩
  · exact ⟨x.natAbs + 4,by omega,by unfold ltr;rw [if_neg (by omega)];omega⟩
theorem chkV_ok {E M K:Nat}:∀ {d:Nat} {v},chkV E M d K v = true → okV E M K v = true
  | 0,_,h => h
  | d + 1,_,h => (Bool.and_eq_true_iff.1 h).1
theorem chkV_sound {E M K:Nat}:∀ {d:Nat} {v} {u:List Int},chkV E M d K v = true → (∀ x ∈ u,x ≠ 0 ∧ x.natAbs ≤ 5) → u.length ≤ d → okV E M K (u.foldl (fun v x => stepV x v) v) = true
  | d,v,[],h,_,_ => chkV_ok h
  | 0,v,x :: u,_,_,hl => by simp at hl
  | d + 1,v,x :: u,h,hu,hl => by
    obtain ⟨h0,h1⟩:=hu x (by simp)
    obtain ⟨i,hi,e⟩:=ltr_all h0 h1
    have h2:=List.all_eq_true.1 (Bool.and_eq_true_iff.1 h).2 i (List.mem_range.2 hi)
    rw [e] at h2
    show okV E M K (u.foldl (fun v x => stepV x v) (stepV x v)) = true
    exact chkV_sound (d:=d) h2 (fun y hy => hu y (by simp [hy])) (by simp at hl;omega)
end Go.Proofs.YtndgffiihbdppaaGreatDoor
namespace Go.Proofs.YtndgffiihbdppaaGreatDoor
set_option maxRecDepth 100000
theorem chk3_a:chk3 0 16 = true:=by decide +kernel
theorem chk3_b:chk3 16 32 = true:=by decide +kernel
end Go.Proofs.YtndgffiihbdppaaGreatDoor
namespace Go.Proofs.YtndgffiihbdppaaGreatDoor
set_option maxRecDepth 100000
theorem chk3_c:chk3 32 48 = true:=by decide +kernel
theorem chk3_d:chk3 48 64 = true:=by decide +kernel
end Go.Proofs.YtndgffiihbdppaaGreatDoor
namespace Go.Proofs.YtndgffiihbdppaaGreatDoor
set_option linter.unusedVariables false
set_option linter.unusedSimpArgs false
open LP CR

set_option maxRecDepth 100000
theorem chk3_at {lo hi T:Nat} (h:chk3 lo hi = true) (h1:lo ≤ T) (h2:T < hi):chkV 3 3 3 (k3 (pop T)) [(T,[(0,1)])] = true:=by
  have:=List.all_eq_true.1 h (T - lo) (List.mem_range.2 (by omega))
  rwa [show lo + (T - lo) = T by omega] at this
theorem chk3_all {T:Nat} (h:T < 64):chkV 3 3 3 (k3 (pop T)) [(T,[(0,1)])] = true:=by
  by_cases h1:T < 16
  · exact chk3_at chk3_a (by omega) h1
  · by_cases h2:T < 32
    · exact chk3_at chk3_b (by omega) h2
    · by_cases h3:T < 48
      · exact chk3_at chk3_c (by omega) h3
      · exact chk3_at chk3_d (by omega) h
def chk1B:Bool:=(List.range 64).all fun T => chkV 1 1 1 (k1 (pop T)) [(T,[(0,1)])]
theorem chk1_all:chk1B = true:=by decide +kernel
def basis (p:Nat):Nat:=if p < 100 then p else p - 100
theorem stkR_one (p:Nat):stkR (oneM:Mtx LP) p = oneM (basis p):=by
  funext j
  unfold stkR basis
  split <;> rfl
def degB (N:Nat) (q:List Nat):Bool:=((List.range N).any fun i => basis (q.getD i 0) == N) || (List.range N).any fun i => (List.range N).any fun j => decide (i < j) && (basis (q.getD i 0) == basis (q.getD j 0))
def selO:Bool:=(List.range 6).all fun N => (List.range (2 ^ N)).all fun S => (List.range (2 ^ (N + 1))).all fun T => !goodB N S T || (if T = S then (List.range N).all fun i => (qST N S T).getD i 0 == (if S.testBit i then i else 100 + i) else degB N (qST N S T))
theorem sel_o:selO = true:=by decide +kernel
theorem selO_at {N S T:Nat} (hN:N ≤ 5) (hS:S < 2 ^ N) (hg:goodB N S T = true):(if T = S then (List.range N).all fun i => (qST N S T).getD i 0 == (if S.testBit i then i else 100 + i) else degB N (qST N S T)) = true:=by
  have hT:T < 2 ^ (N + 1):=of_decide_eq_true (Bool.and_eq_true_iff.1 hg).1
  have h:=List.all_eq_true.1 (List.all_eq_true.1 (List.all_eq_true.1 sel_o N (List.mem_range.2 (by omega))) S (List.mem_range.2 hS)) T (List.mem_range.2 hT)
  rwa [hg,Bool.not_true,Bool.false_or] at h
theorem qST_self {N S:Nat} (hN:N ≤ 5) (hS:S < 2 ^ N) (hg:goodB N S S = true) {i:Nat} (hi:i < N):(qST N S S).getD i 0 = if S.testBit i then i else 100 + i:=by
  have h:=selO_at hN hS hg
  rw [if_pos rfl] at h
  have:=List.all_eq_true.1 h i (List.mem_range.2 hi)
  simpa using this
theorem wST_one {N S:Nat} (hN:N ≤ 5) (hS:S < 2 ^ N) (hg:goodB N S S = true):wST N S S oneM = 1:=by
  unfold wST dN
  rw [← detR_one (R:=LP) N]
  refine detR_congr fun i hi j hj => ?_
  unfold matQ
  rw [stkR_one,qST_self hN hS hg hi]
  have e:basis (if S.testBit i then i else 100 + i) = i:=by unfold basis;split <;> split <;> omega
  rw [e]
theorem wST_zero {N S T:Nat} (hN:N ≤ 5) (hS:S < 2 ^ N) (hg:goodB N S T = true) (hne:T ≠ S):wST N S T oneM = 0:=by
  have h:=selO_at hN hS hg
  rw [if_neg hne] at h
  unfold degB at h
  unfold wST dN
  rcases Bool.or_eq_true_iff.1 h with h | h
  · obtain ⟨i,hi,h1⟩:=List.any_eq_true.1 h
    have hi:=List.mem_range.1 hi
    have hb:basis ((qST N S T).getD i 0) = N:=by simpa using h1
    have e:detR N (matQ (qST N S T) oneM) = detR N (updR (matQ (qST N S T) oneM) i fun _ => 0):=detR_congr fun r hr j hj => by
      by_cases hri:r = i
      · subst hri
        rw [updR_same]
        unfold matQ
        rw [stkR_one,hb]
        exact if_neg (by omega)
      · rw [updR_ne _ _ hri]
    rw [e,(detR_alt N).zero _ hi]
  · obtain ⟨i,hi,h1⟩:=List.any_eq_true.1 h
    obtain ⟨j,hj,h2⟩:=List.any_eq_true.1 h1
    have hi:=List.mem_range.1 hi
    have hj:=List.mem_range.1 hj
    obtain ⟨h3,h4⟩:=Bool.and_eq_true_iff.1 h2
    have hlt:i < j:=of_decide_eq_true h3
    have hb:basis ((qST N S T).getD i 0) = basis ((qST N S T).getD j 0):=by simpa using h4
    exact (detR_alt N).alt _ i j hlt hj fun k _ => by
      show stkR oneM _ k = stkR oneM _ k
      rw [stkR_one,stkR_one,hb]
structure CE (x:LP) (E V:Nat):Prop where
  ex:∀ k,LP.co x k ≠ 0 → k.natAbs ≤ E
  cf:∀ k,(LP.co x k).natAbs ≤ V
theorem CE.mono {x:LP} {E V E' V':Nat} (h:CE x E V) (h1:E ≤ E') (h2:V ≤ V'):CE x E' V':=⟨fun k hk => Nat.le_trans (h.ex k hk) h1,fun k => Nat.le_trans (h.cf k) h2⟩
theorem CE.zero (E:Nat):CE 0 E 0:=⟨fun k hk => absurd (LP.co_zero k) hk,fun k => by rw [LP.co_zero];exact Nat.le_refl _⟩
theorem CE.add {x y:LP} {E V V':Nat} (hx:CE x E V) (hy:CE y E V'):CE (x + y) E (V + V'):=by
  refine ⟨fun k hk => ?_,fun k => ?_⟩
  · rw [LP.co_add] at hk
    by_cases h:LP.co x k = 0
    · exact hy.ex k (by omega)
    · exact hx.ex k h
  · rw [LP.co_add]
    have:=hx.cf k
    have:=hy.cf k
    omega
theorem CE.neg {x:LP} {E V:Nat} (hx:CE x E V):CE (-x) E V:=⟨fun k hk => hx.ex k (by rw [LP.co_neg] at hk;omega),fun k => by rw [LP.co_neg,Int.natAbs_neg];exact hx.cf k⟩
theorem CE.mul {y:LP} {E E2 V:Nat} (hy:CE y E V):∀ (l:List Tm),(∀ t ∈ l,t.1.natAbs ≤ E2) → CE (LP.mk l * y) (E2 + E) (sumA l * V)
  | [],_ => by
    show CE (0 * y) _ _
    rw [CR.zero_mul]
    exact (CE.zero _).mono (Nat.le_refl _) (Nat.zero_le _)
  | t :: l,h => by
    rw [mk_consT,CR.add_mul,show sumA (t :: l) * V = t.2.natAbs * V + sumA l * V by show (t.2.natAbs + sumA l) * V = _;rw [Nat.add_mul]]
    refine CE.add ⟨fun k hk => ?_,fun k => ?_⟩ (CE.mul hy l fun u hu => h u (by simp [hu]))
    · rw [LP.co_term_mul] at hk
      have h1:=hy.ex (k - t.1) (fun e => hk (by rw [e,Int.mul_zero]))
      have h2:=h t (by simp)
      omega
    · rw [LP.co_term_mul,Int.natAbs_mul]
      exact Nat.mul_le_mul (Nat.le_refl _) (hy.cf _)
theorem supV_ex {E M:Nat} {v:List (Nat × List Tm)} (h:supV E M v = true) {p:Nat × List Tm} (hp:p ∈ v):(∀ t ∈ p.2,t.1.natAbs ≤ E) ∧ ∀ t ∈ p.2,t.2.natAbs ≤ M:=by
  have h1:=List.all_eq_true.1 h p hp
  exact ⟨fun t ht => of_decide_eq_true (Bool.and_eq_true_iff.1 (List.all_eq_true.1 h1 t ht)).1,fun t ht => of_decide_eq_true (Bool.and_eq_true_iff.1 (List.all_eq_true.1 h1 t ht)).2⟩
def Bd (N S E V:Nat) (A:Mtx LP):Prop:=∀ T,goodB N S T = true → CE (wST N S T A) E V
theorem Bd.val {N S E E2 M V:Nat} {A:Mtx LP} (h:Bd N S E V A):∀ {v},goodV N S v → supV E2 M v = true → CE (valV N S A v) (E2 + E) (sumV v * V)
  | [],_,_ => (CE.zero _).mono (Nat.le_refl _) (Nat.zero_le _)
  | p :: v,hg,hs => by
    show CE (LP.mk p.2 * wST N S p.1 A + valV N S A v) _ ((sumA p.2 + sumV v) * V)
    rw [Nat.add_mul]
    refine CE.add (CE.mul (h p.1 (hg p (by simp))) p.2 (supV_ex hs (by simp)).1) (h.val (M:=M) (fun q hq => hg q (by simp [hq])) ?_)
    unfold supV at hs ⊢
    rw [List.all_cons] at hs
    exact (Bool.and_eq_true_iff.1 hs).2
theorem good_lt {N S T:Nat} (hN:N ≤ 5) (hg:goodB N S T = true):T < 64 ∧ pop T = popS S N:=by
  obtain ⟨h1,h2⟩:=Bool.and_eq_true_iff.1 hg
  have h3:T < 2 ^ (N + 1):=of_decide_eq_true h1
  have h4:2 ^ (N + 1) ≤ 2 ^ 6:=Nat.pow_le_pow_right (by omega) (by omega)
  exact ⟨by omega,by unfold pop;simpa using h2⟩
theorem okB_five {N:Nat} (hN:N ≤ 5) {u:List Int} (hu:okB (N + 1) u):∀ x ∈ u,x ≠ 0 ∧ x.natAbs ≤ 5:=fun x hx => by have:=hu x hx;omega
theorem Bd.block {N S E V:Nat} {A:Mtx LP} (hN:N ≤ 5) (hS:S < 2 ^ N) (h:Bd N S E V A) {u:List Int} (hu:okB (N + 1) u) (hl:u.length ≤ 3):Bd N S (3 + E) (k3 (popS S N) * V) (opW u A):=fun T hg => by
  obtain ⟨e,hv⟩:=wST_word hN hS hg hu A
  obtain ⟨h64,hp⟩:=good_lt hN hg
  have hc:=chkV_sound (chk3_all h64) (okB_five hN hu) hl
  obtain ⟨c1,c2⟩:=Bool.and_eq_true_iff.1 hc
  rw [hp] at c1
  rw [e]
  exact (h.val hv (Bool.and_eq_true_iff.1 c2).1).mono (Nat.le_refl _) (Nat.mul_le_mul (of_decide_eq_true c1) (Nat.le_refl _))
theorem Bd.letter {N S E V:Nat} {A:Mtx LP} (hN:N ≤ 5) (hS:S < 2 ^ N) (h:Bd N S E V A) {u:List Int} (hu:okB (N + 1) u) (hl:u.length ≤ 1):Bd N S (1 + E) (k1 (popS S N) * V) (opW u A):=fun T hg => by
  obtain ⟨e,hv⟩:=wST_word hN hS hg hu A
  obtain ⟨h64,hp⟩:=good_lt hN hg
  have hc:=chkV_sound (List.all_eq_true.1 chk1_all T (List.mem_range.2 h64)) (okB_five hN hu) hl
  obtain ⟨c1,c2⟩:=Bool.and_eq_true_iff.1 hc
  rw [hp] at c1
  rw [e]
  exact (h.val hv (Bool.and_eq_true_iff.1 c2).1).mono (Nat.le_refl _) (Nat.mul_le_mul (of_decide_eq_true c1) (Nat.le_refl _))
/-! ### exponents are distinct -/
def NdT (l:List Tm):Prop:=(l.map fun t => t.1).Nodup
theorem insT_keys (e c:Int):∀ l:List Tm,(∀ k,k ∈ (insT e c l).map (fun t => t.1) → k = e ∨ k ∈ l.map fun t => t.1) ∧ (NdT l → NdT (insT e c l))
  | [] => ⟨fun k hk => by simp [insT] at hk;exact .inl hk,fun _ => by simp [NdT,insT]⟩
  | p :: l => by
    obtain ⟨h1,h2⟩:=insT_keys e c l
    unfold insT
    by_cases h:e = p.1
    · rw [if_pos h]
      exact ⟨fun k hk => .inr (by simpa using hk),fun hn => by simpa [NdT] using hn⟩
    · rw [if_neg h]
      refine ⟨fun k hk => ?_,fun hn => ?_⟩
      · rw [List.map_cons] at hk ⊢
        rcases List.mem_cons.1 hk with hk | hk
        · exact .inr (by simp [hk])
        · rcases h1 k hk with h3 | h3
          · exact .inl h3
          · exact .inr (List.mem_cons_of_mem _ h3)
      · unfold NdT at hn ⊢
        rw [List.map_cons,List.nodup_cons] at hn ⊢
        refine ⟨fun hm => ?_,h2 hn.2⟩
        rcases h1 _ hm with h3 | h3
        · exact h h3.symm
        · exact hn.1 h3
theorem addT_nd {b:List Tm} (hb:NdT b):∀ a:List Tm,NdT (addT a b)
  | [] => hb
  | p :: a => (insT_keys p.1 p.2 _).2 (addT_nd hb a)
theorem mulF_nd (l:List Tm):∀ o,NdT (mulF l o)
  | [] => List.nodup_nil
  | t :: o => addT_nd (mulF_nd l o) _
def NdV (v:List (Nat × List Tm)):Prop:=∀ p ∈ v,NdT p.2
theorem insV_nd {T:Nat} {l:List Tm} (hl:NdT l):∀ {v},NdV v → NdV (insV T l v)
  | [],_ => fun p hp => by simp [insV] at hp;rw [hp];exact hl
  | p :: v,h => by
    unfold insV
    by_cases e:Nat.beq T p.1 = true
    · rw [e,cond_true]
      intro q hq
      rcases List.mem_cons.1 hq with rfl | hq
      · exact addT_nd (h p (by simp)) l
      · exact h q (by simp [hq])
    · rw [show Nat.beq T p.1 = false from (Bool.not_eq_true _).mp e,cond_false]
      intro q hq
      rcases List.mem_cons.1 hq with rfl | hq
      · exact h _ (by simp)
      · exact insV_nd hl (fun r hr => h r (by simp [hr])) q hq
theorem addO_nd {l:List Tm} {acc:List (Nat × List Tm)} (ha:NdV acc):∀ os,NdV (addO l os acc)
  | [] => ha
  | o :: os => insV_nd (mulF_nd l o.2) (addO_nd ha os)
theorem stepV_nd (x:Int):∀ v,NdV (stepV x v)
  | [] => fun p hp => by simp [stepV] at hp
  | p :: v => addO_nd (stepV_nd x v) _
theorem vecW_nd (T:Nat) (u:List Int):NdV (vecW T u):=by
  have h:∀ (u:List Int) (v:List (Nat × List Tm)),NdV v → NdV (u.foldl (fun v x => stepV x v) v):=by
    intro u
    induction u with
    | nil => intro v hv;exact hv
    | cons x u ih => intro v hv;exact ih _ (stepV_nd x v)
  exact h u _ fun p hp => by simp at hp;rw [hp];simp [NdT]
theorem nd_co {M:Nat} (k:Int):∀ {l:List Tm},NdT l → (∀ t ∈ l,t.2.natAbs ≤ M) → (coefT l k).natAbs ≤ M ∧ (k ∉ l.map (fun t => t.1) → coefT l k = 0)
  | [],_,_ => ⟨Nat.zero_le _,fun _ => rfl⟩
  | t :: l,hn,hm => by
    unfold NdT at hn
    rw [List.map_cons,List.nodup_cons] at hn
    obtain ⟨h1,h2⟩:=nd_co k (l:=l) hn.2 fun u hu => hm u (by simp [hu])
    show ((if t.1 = k then t.2 else 0) + coefT l k).natAbs ≤ M ∧ (_ → (if t.1 = k then t.2 else 0) + coefT l k = 0)
    by_cases h:t.1 = k
    · rw [if_pos h,h2 (by rw [← h];exact hn.1)]
      exact ⟨by have:=hm t (by simp);omega,fun hk => absurd (by simp [h]) hk⟩
    · rw [if_neg h,Int.zero_add]
      exact ⟨h1,fun hk => h2 fun hm => hk (by simp [hm])⟩
theorem mk_ex {E:Nat} {k:Int}:∀ {l:List Tm},(∀ t ∈ l,t.1.natAbs ≤ E) → coefT l k ≠ 0 → k.natAbs ≤ E
  | [],_,h => absurd rfl h
  | t :: l,hm,h => by
    by_cases e:t.1 = k
    · have:=hm t (by simp);omega
    · refine mk_ex (l:=l) (fun u hu => hm u (by simp [hu])) fun h0 => h ?_
      show (if t.1 = k then t.2 else 0) + coefT l k = 0
      rw [if_neg e,h0];rfl
theorem val_first {N S:Nat} (hN:N ≤ 5) (hS:S < 2 ^ N):∀ {v},goodV N S v → supV 3 3 v = true → ndV v = true → NdV v → CE (valV N S oneM v) 3 3 ∧ ((∀ p ∈ v,p.1 ≠ S) → valV N S oneM v = 0)
  | [],_,_,_,_ => ⟨(CE.zero _).mono (Nat.le_refl _) (Nat.zero_le _),fun _ => rfl⟩
  | p :: v,hg,hs,hd,hn => by
    have hs2:supV 3 3 v = true:=by
      unfold supV at hs ⊢
      rw [List.all_cons] at hs
      exact (Bool.and_eq_true_iff.1 hs).2
    obtain ⟨hd1,hd2⟩:=Bool.and_eq_true_iff.1 hd
    obtain ⟨h1,h2⟩:=val_first hN hS (v:=v) (fun q hq => hg q (by simp [hq])) hs2 hd2 fun q hq => hn q (by simp [hq])
    show CE (LP.mk p.2 * wST N S p.1 oneM + valV N S oneM v) 3 3 ∧ (_ → LP.mk p.2 * wST N S p.1 oneM + valV N S oneM v = 0)
    by_cases h:p.1 = S
    · have hz:valV N S oneM v = 0:=h2 fun q hq e => by
        have:=List.all_eq_true.1 hd1 q hq
        rw [e,← h] at this
        simp at this
      have hgS:goodB N S S = true:=by rw [← h];rw [h];have:=hg p (by simp);rwa [h] at this
      rw [hz,h,wST_one hN hS hgS,CR.mul_one,CR.add_zero]
      obtain ⟨e1,e2⟩:=supV_ex hs (p:=p) (by simp)
      refine ⟨⟨fun k hk => ?_,fun k => ?_⟩,fun hne => absurd h (hne p (by simp))⟩
      · rw [LP.co_mk] at hk
        exact mk_ex e1 hk
      · rw [LP.co_mk]
        exact (nd_co k (hn p (by simp)) e2).1
    · rw [wST_zero hN hS (hg p (by simp)) h,CR.mul_zero,CR.zero_add]
      exact ⟨h1,fun hne => h2 fun q hq => hne q (by simp [hq])⟩
theorem Bd.first {N S:Nat} (hN:N ≤ 5) (hS:S < 2 ^ N) {u:List Int} (hu:okB (N + 1) u) (hl:u.length ≤ 3):Bd N S 3 3 (opW u oneM):=fun T hg => by
  obtain ⟨e,hv⟩:=wST_word hN hS hg hu oneM
  obtain ⟨h64,hp⟩:=good_lt hN hg
  have hc:=chkV_sound (chk3_all h64) (okB_five hN hu) hl
  obtain ⟨c1,c2⟩:=Bool.and_eq_true_iff.1 hc
  obtain ⟨c3,c4⟩:=Bool.and_eq_true_iff.1 c2
  rw [e]
  exact (val_first hN hS hv c3 c4 (vecW_nd T u)).1
theorem Bd.w16 {N S:Nat} (hN:N ≤ 5) (hS:S < 2 ^ N) {w:List Int} (hw:okB (N + 1) w) (hl:w.length ≤ 16):Bd N S 16 (k3 (popS S N) ^ 4 * (k1 (popS S N) * 3)) (opW w oneM):=by
  have o:∀ {v:List Int},(∀ x ∈ v,x ∈ w) → okB (N + 1) v:=fun h x hx => hw x (h x hx)
  have e:w = w.take 3 ++ ((w.drop 3).take 3 ++ ((w.drop 6).take 3 ++ ((w.drop 9).take 3 ++ ((w.drop 12).take 1 ++ w.drop 13)))):=by
    have h:∀ (i j:Nat),(w.drop i).take j ++ w.drop (i + j) = w.drop i:=fun i j => by
      have:=List.take_append_drop j (w.drop i)
      rwa [List.drop_drop] at this
    have h12:=h 12 1
    have h9:=h 9 3
    have h6:=h 6 3
    have h3:=h 3 3
    rw [h12,h9,h6,h3,List.take_append_drop]
  have b0:=Bd.first hN hS (u:=w.drop 13) (o fun x hx => List.mem_of_mem_drop hx) (by simp;omega)
  have b1:=b0.letter hN hS (u:=(w.drop 12).take 1) (o fun x hx => List.mem_of_mem_drop (List.mem_of_mem_take hx)) (by simp;omega)
  have b2:=b1.block hN hS (u:=(w.drop 9).take 3) (o fun x hx => List.mem_of_mem_drop (List.mem_of_mem_take hx)) (by simp;omega)
  have b3:=b2.block hN hS (u:=(w.drop 6).take 3) (o fun x hx => List.mem_of_mem_drop (List.mem_of_mem_take hx)) (by simp;omega)
  have b4:=b3.block hN hS (u:=(w.drop 3).take 3) (o fun x hx => List.mem_of_mem_drop (List.mem_of_mem_take hx)) (by simp;omega)
  have b5:=b4.block hN hS (u:=w.take 3) (o fun x hx => List.mem_of_mem_take hx) (by simp;omega)
  intro T hg
  have h:=b5 T hg
  simp only [← opW_append,List.append_assoc] at h
  rw [← e] at h
  refine h.mono (by omega) ?_
  generalize k3 (popS S N) = a
  generalize k1 (popS S N) = b
  rw [show a ^ 4 = a * (a * (a * a)) by rw [Nat.pow_succ,Nat.pow_succ,Nat.pow_succ,Nat.pow_one];ac_rfl]
  have:a * (a * (a * (a * (b * 3)))) = a * (a * (a * a)) * (b * 3):=by ac_rfl
  omega
theorem Bd.w21 {N S:Nat} (hN:N ≤ 5) (hS:S < 2 ^ N) {w:List Int} (hw:okB (N + 1) w) (hl:w.length ≤ 21):Bd N S 21 1162261467 (opW w oneM):=by
  have o:∀ {v:List Int},(∀ x ∈ v,x ∈ w) → okB (N + 1) v:=fun h x hx => hw x (h x hx)
  have e:w = w.take 3 ++ ((w.drop 3).take 3 ++ ((w.drop 6).take 3 ++ ((w.drop 9).take 3 ++ ((w.drop 12).take 3 ++ ((w.drop 15).take 3 ++ w.drop 18))))):=by
    have h:∀ (i j:Nat),(w.drop i).take j ++ w.drop (i + j) = w.drop i:=fun i j => by
      have:=List.take_append_drop j (w.drop i)
      rwa [List.drop_drop] at this
    have h15:=h 15 3
    have h12:=h 12 3
    have h9:=h 9 3
    have h6:=h 6 3
    have h3:=h 3 3
    rw [h15,h12,h9,h6,h3,List.take_append_drop]
  have b0:=Bd.first hN hS (u:=w.drop 18) (o fun x hx => List.mem_of_mem_drop hx) (by simp;omega)
  have b1:=b0.block hN hS (u:=(w.drop 15).take 3) (o fun x hx => List.mem_of_mem_drop (List.mem_of_mem_take hx)) (by simp;omega)
  have b2:=b1.block hN hS (u:=(w.drop 12).take 3) (o fun x hx => List.mem_of_mem_drop (List.mem_of_mem_take hx)) (by simp;omega)
  have b3:=b2.block hN hS (u:=(w.drop 9).take 3) (o fun x hx => List.mem_of_mem_drop (List.mem_of_mem_take hx)) (by simp;omega)
  have b4:=b3.block hN hS (u:=(w.drop 6).take 3) (o fun x hx => List.mem_of_mem_drop (List.mem_of_mem_take hx)) (by simp;omega)
  have b5:=b4.block hN hS (u:=(w.drop 3).take 3) (o fun x hx => List.mem_of_mem_drop (List.mem_of_mem_take hx)) (by simp;omega)
  have b6:=b5.block hN hS (u:=w.take 3) (o fun x hx => List.mem_of_mem_take hx) (by simp;omega)
  intro T hg
  have h:=b6 T hg
  simp only [← opW_append,List.append_assoc] at h
  rw [← e] at h
  refine h.mono (by omega) ?_
  have hk:k3 (popS S N) ≤ 27:=by unfold k3;split <;> omega
  generalize k3 (popS S N) = a at *
  calc a * (a * (a * (a * (a * (a * 3))))) ≤ 27 * (27 * (27 * (27 * (27 * (27 * 3))))):=Nat.mul_le_mul hk (Nat.mul_le_mul hk (Nat.mul_le_mul hk (Nat.mul_le_mul hk (Nat.mul_le_mul hk (Nat.mul_le_mul hk (Nat.le_refl _))))))
    _ ≤ 1162261467:=by decide
end Go.Proofs.YtndgffiihbdppaaGreatDoor
namespace Go.Proofs.YtndgffiihbdppaaGreatDoor
set_option linter.unusedVariables false
set_option linter.unusedSimpArgs false
open LP CR

noncomputable def adet (n:Nat) (w:List Int):LP:=detR (n - 1) fun i j => oneM i j + -(bu n w i j)
def mixQ (k:Nat) (q:List Nat) (A:Mtx LP):Mtx LP:=fun i => if i < k then stkR A (q.getD i 0) else fun j => oneM i j + -(A i j)
theorem mix_step {N k:Nat} {q:List Nat} (hk:k < N) (hN:N ≤ 5) (hq:q.length = k) (A:Mtx LP) :
    detR N (mixQ k q A) = detR N (mixQ (k + 1) (q ++ [100 + k]) A) + -detR N (mixQ (k + 1) (q ++ [k]) A):=by
  have g1:∀ p i,i < k → (q ++ [p]).getD i 0 = q.getD i 0:=fun p i hi => by
    simp only [List.getD,List.getElem?_append_left (show i < q.length by omega)]
  have g2:∀ p,(q ++ [p]).getD k 0 = p:=fun p => by
    rw [← hq];simp [List.getD]
  have e:∀ p,detR N (mixQ (k + 1) (q ++ [p]) A) = detR N (updR (mixQ k q A) k (stkR A p)):=fun p => detR_congr fun i hi j _ => by
    unfold mixQ
    by_cases h1:i = k
    · subst h1
      rw [updR_same,if_pos (by omega),g2]
    · rw [updR_ne _ _ h1]
      by_cases h2:i < k
      · rw [if_pos (by omega),if_pos h2,g1 p i h2]
      · rw [if_neg (by omega),if_neg h2]
  have e0:detR N (mixQ k q A) = detR N (updR (mixQ k q A) k fun j => stkR A (100 + k) j + (-1) * stkR A k j):=detR_congr fun i hi j _ => by
    by_cases h1:i = k
    · subst h1
      rw [updR_same]
      unfold mixQ stkR
      rw [if_neg (by omega),if_neg (by omega),if_pos (by omega),show 100 + i - 100 = i by omega,CR.neg_mul,CR.one_mul]
    · rw [updR_ne _ _ h1]
  rw [e0,(detR_alt N).add _ k _ _ hk,(detR_alt N).smul _ k _ _ hk,e,e,CR.neg_mul,CR.one_mul]
def qs (k S:Nat):List Nat:=(List.range k).map fun i => if S.testBit i then i else 100 + i
def chkQs:Bool:=(List.range 5).all fun k => (List.range (2 ^ k)).all fun S => (qs (k + 1) S == qs k S ++ [100 + k]) && ((qs (k + 1) (S + 2 ^ k) == qs k S ++ [k]) && ((popS S (k + 1) == popS S k) && (popS (S + 2 ^ k) (k + 1) == popS S k + 1)))
theorem chk_qs:chkQs = true:=by decide +kernel
def chkG:Bool:=(List.range 6).all fun N => (List.range (2 ^ N)).all fun S => goodB N S S
theorem chk_g:chkG = true:=by decide +kernel
theorem good_self {N S:Nat} (hN:N ≤ 5) (hS:S < 2 ^ N):goodB N S S = true:=List.all_eq_true.1 (List.all_eq_true.1 chk_g N (List.mem_range.2 (by omega))) S (List.mem_range.2 hS)
theorem qs_at {k S:Nat} (hk:k < 5) (hS:S < 2 ^ k):qs (k + 1) S = qs k S ++ [100 + k] ∧ qs (k + 1) (S + 2 ^ k) = qs k S ++ [k] ∧ popS S (k + 1) = popS S k ∧ popS (S + 2 ^ k) (k + 1) = popS S k + 1:=by
  have h:=List.all_eq_true.1 (List.all_eq_true.1 chk_qs k (List.mem_range.2 hk)) S (List.mem_range.2 hS)
  obtain ⟨h1,h2⟩:=Bool.and_eq_true_iff.1 h
  obtain ⟨h2,h3⟩:=Bool.and_eq_true_iff.1 h2
  obtain ⟨h3,h4⟩:=Bool.and_eq_true_iff.1 h3
  exact ⟨by simpa using h1,by simpa using h2,by simpa using h3,by simpa using h4⟩
def bnd (b:Nat → Nat):Nat → Nat → Nat
  | 0,t => b t
  | m + 1,t => bnd b m t + bnd b m (t + 1)
theorem mix_CE {N E:Nat} {b:Nat → Nat} {A:Mtx LP} (hN:N ≤ 5) (h:∀ S,S < 2 ^ N → CE (wST N S S A) E (b (popS S N))):∀ (m k S:Nat),k + m = N → S < 2 ^ k → CE (detR N (mixQ k (qs k S) A)) E (bnd b m (popS S k))
  | 0,k,S,hk,hS => by
    have hk:k = N:=hk
    subst hk
    have e:detR k (mixQ k (qs k S) A) = wST k S S A:=detR_congr fun i hi j _ => by
      unfold mixQ matQ
      rw [if_pos hi,qST_self hN hS (good_self hN hS) hi]
      simp [qs,List.getD,hi]
    rw [e]
    exact h S hS
  | m + 1,k,S,hk,hS => by
    obtain ⟨e1,e2,e3,e4⟩:=qs_at (show k < 5 by omega) hS
    rw [mix_step (by omega) hN (by simp [qs]),← e1,← e2]
    have h1:=mix_CE hN h m (k + 1) S (by omega) (by rw [Nat.pow_succ];omega)
    have h2:=mix_CE hN h m (k + 1) (S + 2 ^ k) (by omega) (by rw [Nat.pow_succ];omega)
    rw [e3] at h1
    rw [e4] at h2
    exact h1.add h2.neg
theorem adet_mix {N:Nat} (hN:N ≤ 5) {w:List Int} (hw:okB (N + 1) w):adet (N + 1) w = detR N (mixQ 0 (qs 0 0) (opW w oneM)):=detR_congr fun i hi j hj => by
  show oneM i j + -(bu (N + 1) w i j) = oneM i j + -(opW w oneM i j)
  rw [bu_op hw i (by omega) j (by omega)]
theorem adet_16 {N:Nat} (hN:N ≤ 5) {w:List Int} (hw:okB (N + 1) w) (hl:w.length ≤ 16):CE (adet (N + 1) w) 16 75626922:=by
  rw [adet_mix hN hw]
  refine (mix_CE hN (E:=16) (b:=fun t => k3 t ^ 4 * (k1 t * 3)) (fun S hS => Bd.w16 hN hS hw hl S (good_self hN hS)) N 0 0 (by omega) (by omega)).mono (Nat.le_refl _) ?_
  have:N = 0 ∨ N = 1 ∨ N = 2 ∨ N = 3 ∨ N = 4 ∨ N = 5:=by omega
  rcases this with rfl | rfl | rfl | rfl | rfl | rfl <;> decide
theorem CE.sm {x:LP} {E V:Nat} (h:CE x E V):Sm x (-(E:Int)) E V:=⟨fun k hk => by have:=h.ex k hk;omega,h.cf⟩
theorem CE.rt {x:LP} {E V:Nat} (h:CE x E V) (h1:E ≤ 99) (h2:V ≤ 100000000):Rt x:=h.sm.pfl (by omega) (by omega) (by omega) h2
end Go.Proofs.YtndgffiihbdppaaGreatDoor
namespace Go.Proofs.YtndgffiihbdppaaGreatDoor
set_option linter.unusedVariables false
set_option linter.unusedSimpArgs false
open Go.RowKit

def alE (n:Int) (w:List Int):Int:=if bfault n w ≠ 0 then bfault n w else if 20 < w.length then 2 else 0
noncomputable def alP (n:Int) (w:List Int):List Int:=if alE n w = 0 then LP.normC (LP.canon (adet n.toNat w)).2 else []
def altP (cs:List Int):Nat → Int
  | 0 => 0
  | k + 1 => altP cs k + cs.getD k 0 * (1 - 2 * ((k:Int) % 2))
noncomputable def alD (n:Int) (w:List Int):Int:=(altP (alP n w) (alP n w).length).natAbs
def alF (n:Int) (w:List Int):Prop:=alE n w = 0 → w.length ≤ 16 ∨ n ≤ 2
theorem alF_2 {w:List Int}:alF 2 w:=fun _ => .inr (Int.le_refl 2)
structure AlexC:Prop where
  poly : ∀ (m : Int) (A : Option Addr) (n c : Nat) (xs : List Int) (w : World), SL w A n c xs → (Lit.int .i64 m).wf = true → alF m xs → Calls Tryz.prog 6 #[.int .i64 m, .slice A n c] w (GivesPE w (alE m xs, 0, alP m xs)) -- 6
  det : ∀ (m : Int) (A : Option Addr) (n c : Nat) (xs : List Int) (w : World), SL w A n c xs → (Lit.int .i64 m).wf = true → alF m xs → Calls Tryz.prog 7 #[.int .i64 m, .slice A n c] w fun e w' => e = .returned (.tuple #[.int .i64 (alD m xs), .int .i64 (alE m xs)]) ∧ Below w.heap.size w w' -- 7
theorem adet_one {w:List Int} (hw:okB 2 w):adet 2 w = 1 + -(LP.mk ((w.foldr stepL (unitC 2 0)).getD 0 [])):=by
  have e:adet 2 w = detR 1 fun i j => oneM i j + -(bu 2 w i j):=rfl
  rw [e,← bu_col (n:=2) (c:=0) (by omega) hw 0 (by omega),← bu_op hw 0 (by omega) 0 (by omega)]
  show CR.sumN 1 (fun j => CR.sgR LP j * ((oneM 0 j + -(bu 2 w 0 j)) * 1)) = _
  rw [CR.sumN_succ]
  show CR.sumN 0 _ + CR.sgR LP 0 * ((oneM 0 0 + -(bu 2 w 0 0)) * 1) = _
  rw [CR.mul_one]
  show 0 + 1 * (1 + -(bu 2 w 0 0)) = _
  rw [CR.zero_add,CR.one_mul]
theorem ok_111:okB 2 [1,1,1]:=fun x hx => by simp at hx;subst hx;decide
theorem al_111:alE 2 [1,1,1] = 0 ∧ alP 2 [1,1,1] = [1,-1,1] ∧ alD 2 [1,1,1] = 3:=by
  have h1:alE 2 [1,1,1] = 0:=by decide
  have h2:alP 2 [1,1,1] = [1,-1,1]:=by
    unfold alP
    rw [if_pos h1,show (2:Int).toNat = 2 from rfl,adet_one ok_111]
    have e:LP.canon (1 + -(LP.mk (([1,1,1].foldr stepL (unitC 2 0)).getD 0 []))) = (1,[1,-1,1]):=by
      refine LP.canon_eq (.inr ⟨by simp,by decide,by decide⟩) ?_
      refine LP.ext fun k => ?_
      rw [LP.co_add,LP.co_neg,LP.co_one,LP.co_mk]
      show LP.co (LP.term 1 1 + (LP.term (1 + 1) (-1) + (LP.term (1 + 1 + 1) 1 + 0))) k = _
      rw [LP.co_add,LP.co_add,LP.co_add,LP.co_term,LP.co_term,LP.co_term,LP.co_zero]
      rw [show ([1,1,1].foldr stepL (unitC 2 0)).getD 0 [] = ([1,1,1].foldr stepL (unitC 2 0)).getD 0 [] from rfl]
      obtain ⟨l,hl⟩:∃ l,([1,1,1].foldr stepL (unitC 2 0)).getD 0 [] = l:=⟨_,rfl⟩
      have hl2:=hl
      rw [show ([1,1,1].foldr stepL (unitC 2 0)).getD 0 [] = [(1,-1),(2,1),(0,1),(3,-1)] from by decide +kernel] at hl2
      rw [hl,← hl2]
      show _ = (if (0:Int) = k then (1:Int) else 0) + -((if (1:Int) = k then (-1:Int) else 0) + ((if (2:Int) = k then (1:Int) else 0) + ((if (0:Int) = k then (1:Int) else 0) + ((if (3:Int) = k then (-1:Int) else 0) + 0))))
      grind
    rw [e]
    decide
  refine ⟨h1,h2,?_⟩
  unfold alD
  rw [h2]
  decide
theorem alE_bad {n:Int} {w:List Int} (h:bfault n w ≠ 0):alE n w = bfault n w:=by unfold alE;rw [if_pos h]
theorem alE_long {n:Int} {w:List Int} (h:bfault n w = 0) (hl:20 < w.length):alE n w = 2:=by unfold alE;rw [h,if_neg (by simp),if_pos hl]
theorem alE_ok {n:Int} {w:List Int} (h:bfault n w = 0) (hl:w.length ≤ 20):alE n w = 0:=by unfold alE;rw [h,if_neg (by simp),if_neg (by omega)]
theorem alP_bad {n:Int} {w:List Int} (h:alE n w ≠ 0):alP n w = [] ∧ alD n w = 0:=by
  have e:alP n w = []:=by unfold alP;rw [if_neg h]
  exact ⟨e,by unfold alD;rw [e];rfl⟩
theorem normC_mem {cs:List Int} {M:Nat} (h:∀ c ∈ cs,c.natAbs ≤ M):∀ c ∈ LP.normC cs,c.natAbs ≤ M:=fun c hc => by
  unfold LP.normC at hc
  obtain ⟨z,hz,rfl⟩:=List.mem_map.1 hc
  have:=h z hz
  unfold LP.sgL
  split <;> omega
theorem altP_le {cs:List Int} {M:Nat} (h:∀ c ∈ cs,c.natAbs ≤ M):∀ k,(altP cs k).natAbs ≤ k * M
  | 0 => by simp [altP]
  | k + 1 => by
    have h1:=altP_le h k
    have h2:(cs.getD k 0).natAbs ≤ M:=by
      by_cases hk:k < cs.length
      · rw [show cs.getD k 0 = cs[k] by simp [List.getD,hk]];exact h _ (List.getElem_mem _)
      · rw [show cs.getD k 0 = 0 by simp [List.getD,Nat.le_of_not_lt hk]];exact Nat.zero_le _
    have h3:(cs.getD k 0 * (1 - 2 * ((k:Int) % 2))).natAbs ≤ M:=by
      rw [Int.natAbs_mul]
      have:(1 - 2 * ((k:Int) % 2)).natAbs = 1:=by omega
      rw [this,Nat.mul_one];exact h2
    show (altP cs k + cs.getD k 0 * (1 - 2 * ((k:Int) % 2))).natAbs ≤ (k + 1) * M
    rw [Nat.succ_mul]
    omega
theorem canon_mem {x:LP} {E V:Nat} (h:CE x E V):(LP.canon x).2.length ≤ 2 * E + 1 ∧ ∀ c ∈ (LP.canon x).2,c.natAbs ≤ V:=by
  have hc:=LP.canon_cano x
  have ho:=LP.of_canon x
  refine ⟨?_,fun c hcm => ?_⟩
  · by_cases hn:(LP.canon x).2 = []
    · rw [hn];simp
    · have h1:=hc.low hn
      have h2:=hc.high hn
      rw [ho] at h1 h2
      have h3:=h.ex _ h1
      have h4:=h.ex _ h2
      omega
  · obtain ⟨k,hk,e⟩:=List.mem_iff_getElem.1 hcm
    have h1:=h.cf ((LP.canon x).1 + k)
    have e3:=LP.co_of_at (lo:=(LP.canon x).1) hk
    rw [ho] at e3
    rw [e3,getD_of_lt 0 hk,e] at h1
    exact h1
section
open CR
theorem altP_sum (cs:List Int):∀ k,altP cs k = CR.sumN k fun i => cs.getD i 0 * LP.pw true (i:Int)
  | 0 => rfl
  | k + 1 => by
    rw [CR.sumN_succ]
    show altP cs k + cs.getD k 0 * (1 - 2 * ((k:Int) % 2)) = _
    rw [altP_sum cs k]
    congr 1
    unfold LP.pw
    have:(k:Int) % 2 = 0 ∨ (k:Int) % 2 = 1:=by omega
    rcases this with h | h
    · rw [if_neg (by simp [h]),h]
      show _ * (1 - 2 * 0) = _ * 1
      omega
    · rw [if_pos ⟨rfl,by omega⟩,h]
      show _ * (1 - 2 * 1) = _ * (-1)
      omega
theorem ev_of0 (cs:List Int):LP.ev true (LP.of 0 cs) = altP cs cs.length:=by
  rw [altP_sum]
  unfold LP.ev
  rw [LP.lin_of]
  exact CR.sumN_congr fun i hi => by rw [Int.zero_add]
end
end Go.Proofs.YtndgffiihbdppaaGreatDoor
namespace Go.Proofs.YtndgffiihbdppaaGreatDoor
set_option linter.unusedVariables false
set_option linter.unusedSimpArgs false

def gens (n:Nat):List Int:=(List.range n).map fun (i:Nat) => ((i:Nat):Int) + 1
end Go.Proofs.YtndgffiihbdppaaGreatDoor
namespace Go.Proofs.YtndgffiihbdppaaGreatDoor
set_option linter.unusedVariables false
set_option linter.unusedSimpArgs false

def cSt (m x:Int) (c:List Int):List Int:=
  if 0 < x then (c.set (x.natAbs - 1) ((2 * c.getD (x.natAbs - 1) 0 - c.getD x.natAbs 0) % m)).set x.natAbs (c.getD (x.natAbs - 1) 0)
  else (c.set (x.natAbs - 1) (c.getD x.natAbs 0)).set x.natAbs ((2 * c.getD x.natAbs 0 - c.getD (x.natAbs - 1) 0) % m)
def cCol (m:Int) (w:List Int) (c:List Int):List Int:=w.foldl (fun c x => cSt m x c) c
structure IsC (m:Int) (n:Nat) (c:List Int):Prop where
  len:c.length = n
  col:∀ j,j < n → 0 ≤ c.getD j 0 ∧ c.getD j 0 < m
theorem cSt_length (m x:Int) (c:List Int):(cSt m x c).length = c.length:=by unfold cSt;split <;> simp
theorem cSt_getD {m x:Int} {c:List Int} {n:Nat} (hl:c.length = n) (h0:x ≠ 0) (h1:x.natAbs < n) {j:Nat} (hj:j < n) :
    (cSt m x c).getD j 0 = if j + 1 = x.natAbs then (if 0 < x then (2 * c.getD j 0 - c.getD (j + 1) 0) % m else c.getD (j + 1) 0)
      else if j = x.natAbs then (if 0 < x then c.getD (j - 1) 0 else (2 * c.getD j 0 - c.getD (j - 1) 0) % m) else c.getD j 0:=by
  unfold cSt
  obtain ⟨i,hi⟩:∃ i,x.natAbs = i + 1:=⟨x.natAbs - 1,by omega⟩
  rw [hi] at h1 ⊢
  rw [Nat.add_sub_cancel]
  have hs:∀ (l:List Int) (k:Nat) (v:Int),k < l.length → (l.set k v).getD j 0 = if k = j then v else l.getD j 0:=fun l k v hk => by
    simp only [List.getD,List.getElem?_set]
    by_cases e:k = j
    · subst e;simp [hk]
    · simp [e]
  by_cases hx:0 < x
  · rw [if_pos hx,hs _ _ _ (by simp;omega),hs _ _ _ (by omega)]
    by_cases e1:j = i
    · subst e1;simp [hx]
    · by_cases e2:j = i + 1
      · subst e2;simp [hx]
      · rw [if_neg (by omega),if_neg (by omega),if_neg (by omega),if_neg (by omega)]
  · rw [if_neg hx,hs _ _ _ (by simp;omega),hs _ _ _ (by omega)]
    by_cases e1:j = i
    · subst e1;simp [hx]
    · by_cases e2:j = i + 1
      · subst e2;simp [hx]
      · rw [if_neg (by omega),if_neg (by omega),if_neg (by omega),if_neg (by omega)]
theorem IsC.step {m x:Int} {c:List Int} {n:Nat} (h:IsC m n c) (h0:x ≠ 0) (h1:x.natAbs < n):IsC m n (cSt m x c):=by
  refine ⟨by rw [cSt_length];exact h.len,fun j hj => ?_⟩
  have hm:0 < m:=by have:=h.col j hj;omega
  rw [cSt_getD h.len h0 h1 hj]
  have e:∀ z:Int,0 ≤ z % m ∧ z % m < m:=fun z => ⟨Int.emod_nonneg _ (by omega),Int.emod_lt_of_pos _ hm⟩
  by_cases e1:j + 1 = x.natAbs
  · rw [if_pos e1]
    split
    · exact e _
    · exact h.col _ (by omega)
  · rw [if_neg e1]
    by_cases e2:j = x.natAbs
    · rw [if_pos e2]
      split
      · exact h.col _ (by omega)
      · exact e _
    · rw [if_neg e2];exact h.col j hj
theorem cCol_append (m:Int) (u v c:List Int):cCol m (u ++ v) c = cCol m v (cCol m u c):=by unfold cCol;rw [List.foldl_append]
theorem IsC.word {m:Int} {n:Nat}:∀ {w c:List Int},(∀ x ∈ w,x ≠ 0 ∧ x.natAbs < n) → IsC m n c → IsC m n (cCol m w c)
  | [],c,_,h => h
  | x :: w,c,hw,h => IsC.word (w:=w) (fun y hy => hw y (by simp [hy])) (h.step (hw x (by simp)).1 (hw x (by simp)).2)
def digs (m n i:Nat):List Int:=(List.range n).map fun j => ((i / m ^ j % m:Nat):Int)
theorem digs_isC {m n:Nat} (hm:1 ≤ m) (i:Nat):IsC m n (digs m n i):=
  ⟨by simp [digs],fun j hj => by
    have e:(digs m n i).getD j 0 = ((i / m ^ j % m:Nat):Int):=by simp [digs,List.getD,hj]
    rw [e]
    have:=Nat.mod_lt (i / m ^ j) (show m > 0 by omega)
    omega⟩
def cntC (n m:Nat) (w:List Int):Nat:=(List.range (m ^ n)).countP fun i => decide (cCol m w (digs m n i) = digs m n i)
end Go.Proofs.YtndgffiihbdppaaGreatDoor
namespace Go.Proofs.YtndgffiihbdppaaGreatDoor
set_option linter.unusedVariables false
set_option linter.unusedSimpArgs false
open Go.RowKit

def okE (x:Int):Bool:=decide (x ≤ 100 ∧ -100 ≤ x)
def mrow (k:Nat) (r:List Int):Int:=if 6 < r.length then 2 else if r.length ≠ k then 3 else if r.all okE then 0 else 1
def mrows (k:Nat):List (List Int) → Int
  | [] => 0
  | r :: t => if mrow k r = 0 then mrows k t else mrow k r
def mfault (xss:List (List Int)):Int:=if 6 < xss.length then 2 else mrows (xss.getD 0 []).length xss
theorem mrows_step {k:Nat} {xss:List (List Int)} {j:Nat} (hj:j < xss.length):mrows k (xss.drop j) = if mrow k (xss.getD j []) = 0 then mrows k (xss.drop (j + 1)) else mrow k (xss.getD j []):=by
  rw [List.drop_eq_getElem_cons hj]
  have e:xss.getD j [] = xss[j]:=by simp [List.getD,List.getElem?_eq_getElem hj]
  rw [e]
  rfl
theorem mrows_zero {k:Nat}:∀ {xss:List (List Int)},mrows k xss = 0 → ∀ r ∈ xss,mrow k r = 0
  | [],_,r,hr => by cases hr
  | x :: t,h,r,hr => by
    unfold mrows at h
    by_cases h0:mrow k x = 0
    · rw [if_pos h0] at h
      rcases List.mem_cons.1 hr with rfl | hr
      · exact h0
      · exact mrows_zero h r hr
    · rw [if_neg h0] at h
      exact absurd h h0
theorem mrow_zero {k:Nat} {r:List Int} (h:mrow k r = 0):r.length = k ∧ k ≤ 6 ∧ ∀ x ∈ r,x ≤ 100 ∧ -100 ≤ x:=by
  unfold mrow at h
  by_cases h1:6 < r.length
  · rw [if_pos h1] at h;cases h
  · rw [if_neg h1] at h
    by_cases h2:r.length ≠ k
    · rw [if_pos h2] at h;cases h
    · rw [if_neg h2] at h
      by_cases h3:r.all okE = true
      · exact ⟨by omega,by omega,fun x hx => by have:=List.all_eq_true.1 h3 x hx;simpa [okE] using this⟩
      · rw [if_neg h3] at h;cases h
theorem mrow_ok {k:Nat} {r:List Int} (h1:r.length = k) (h2:k ≤ 6) (h3:∀ x ∈ r,x ≤ 100 ∧ -100 ≤ x):mrow k r = 0:=by
  unfold mrow
  rw [if_neg (by omega),if_neg (by omega),if_pos (List.all_eq_true.2 fun x hx => by simpa [okE] using h3 x hx)]
theorem mrows_ok {k:Nat}:∀ {xss:List (List Int)},(∀ r ∈ xss,mrow k r = 0) → mrows k xss = 0
  | [],_ => rfl
  | x :: t,h => by
    unfold mrows
    rw [if_pos (h x (by simp)),mrows_ok fun r hr => h r (by simp [hr])]
theorem mfault_zero {xss:List (List Int)} (h:mfault xss = 0):xss.length ≤ 6 ∧ (xss.getD 0 []).length ≤ 6 ∧ ∀ r ∈ xss,r.length = (xss.getD 0 []).length ∧ ∀ x ∈ r,x ≤ 100 ∧ -100 ≤ x:=by
  unfold mfault at h
  by_cases h1:6 < xss.length
  · rw [if_pos h1] at h;cases h
  · rw [if_neg h1] at h
    refine ⟨by omega,?_,fun r hr => ?_⟩
    · cases xss with
      | nil => simp
      | cons r t =>
        have:=mrow_zero (mrows_zero h r (by simp))
        omega
    · have:=mrow_zero (mrows_zero h r hr)
      exact ⟨this.1,this.2.2⟩
theorem mfault_ok {xss:List (List Int)} {k:Nat} (h1:xss.length ≤ 6) (h2:k ≤ 6) (h:∀ r ∈ xss,r.length = k ∧ ∀ x ∈ r,x ≤ 100 ∧ -100 ≤ x):mfault xss = 0:=by
  unfold mfault
  rw [if_neg (by omega)]
  cases xss with
  | nil => rfl
  | cons r t =>
    have e:((r :: t).getD 0 []).length = k:=(h r (by simp)).1
    rw [e]
    exact mrows_ok fun r hr => mrow_ok (h r hr).1 h2 (h r hr).2
theorem getD_memI {l:List Int} {j:Nat} (h:j < l.length):l.getD j 0 ∈ l:=by
  rw [show l.getD j 0 = l[j] by simp [List.getD,List.getElem?_eq_getElem h]]
  exact List.getElem_mem _
theorem all_take_okE {w:List Int} {k:Nat} (hk:k < w.length):(w.take (k + 1)).all okE = ((w.take k).all okE && okE (w.getD k 0)):=by
  rw [List.take_succ_eq_append_getElem hk,List.all_append]
  simp [List.getD,List.getElem?_eq_getElem hk]

end Go.Proofs.YtndgffiihbdppaaGreatDoor
