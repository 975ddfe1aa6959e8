/- Several texts in one. -/
import Derived.Test.YtbedpgcbfbjgiaaGreatDoorPart13
namespace Go.Proofs.YtbedpgcbfbjgiaaGreatDoor
set_option linter.unusedVariables false
set_option linter.unusedSimpArgs false
open CR

def stkR (A:Mtx LP) (p:Nat):Nat → LP:=fun j => if p < 100 then A p j else oneM (p - 100) j
def matQ (q:List Nat) (A:Mtx LP):Mtx LP:=fun i => stkR A (q.getD i 0)
def dN (N:Nat) (q:List Nat) (A:Mtx LP):LP:=detR N (matQ q A)
theorem getD_set_ne {q:List Nat} {r i p:Nat} (h:i ≠ r):(q.set r p).getD i 0 = q.getD i 0:=by
  simp only [List.getD,List.getElem?_set];rw [if_neg (Ne.symm h)]
theorem getD_set_eq {q:List Nat} {r p:Nat} (h:r < q.length):(q.set r p).getD r 0 = p:=by
  simp [List.getD,List.getElem?_set,h]
theorem dN_upd {N r:Nat} {q:List Nat} (hl:q.length = N) (hr:r < N) (A:Mtx LP) (p:Nat):dN N (q.set r p) A = detR N (updR (matQ q A) r (stkR A p)):=
  detR_congr fun i hi j hj => by
    unfold matQ
    by_cases h:i = r
    · subst h;rw [getD_set_eq (by omega),updR_same]
    · rw [getD_set_ne h,updR_ne _ _ h]
theorem dN_none {N:Nat} {q:List Nat} {A B:Mtx LP} (h:∀ i,i < N → stkR B (q.getD i 0) = stkR A (q.getD i 0)):dN N q B = dN N q A:=
  detR_congr fun i hi j _ => by unfold matQ;rw [h i hi]
theorem dN_one {N r:Nat} {q:List Nat} {A B:Mtx LP} (hl:q.length = N) (hr:r < N) (h:∀ i,i < N → i ≠ r → stkR B (q.getD i 0) = stkR A (q.getD i 0)) (c d:LP) (u v:Nat)
    (hB:stkR B (q.getD r 0) = fun j => c * stkR A u j + d * stkR A v j):dN N q B = c * dN N (q.set r u) A + d * dN N (q.set r v) A:=by
  have e:dN N q B = detR N (updR (matQ q A) r fun j => c * stkR A u j + d * stkR A v j):=detR_congr fun i hi j _ => by
    by_cases hir:i = r
    · subst hir;rw [updR_same];show stkR B (q.getD i 0) j = _;rw [hB]
    · rw [updR_ne _ _ hir];show stkR B (q.getD i 0) j = stkR A (q.getD i 0) j;rw [h i hi hir]
  rw [e,(detR_alt N).add _ r _ _ hr,(detR_alt N).smul _ r c _ hr,(detR_alt N).smul _ r d _ hr,dN_upd hl hr,dN_upd hl hr]
theorem dN_two {N r s:Nat} {q:List Nat} {A B:Mtx LP} (hr:r < N) (hs:s < N) (hne:r ≠ s) (h:∀ i,i < N → i ≠ r → i ≠ s → stkR B (q.getD i 0) = stkR A (q.getD i 0)) (c d:LP)
    (hBr:stkR B (q.getD r 0) = fun j => c * stkR A (q.getD r 0) j + d * stkR A (q.getD s 0) j) (hBs:stkR B (q.getD s 0) = stkR A (q.getD r 0)):dN N q B = -d * dN N q A:=by
  have e:dN N q B = detR N (updR (updR (matQ q A) s (stkR A (q.getD r 0))) r fun j => c * stkR A (q.getD r 0) j + d * stkR A (q.getD s 0) j):=detR_congr fun i hi j _ => by
    by_cases hir:i = r
    · subst hir;rw [updR_same];show stkR B (q.getD i 0) j = _;rw [hBr]
    · rw [updR_ne _ _ hir]
      by_cases his:i = s
      · subst his;rw [updR_same];show stkR B (q.getD i 0) j = _;rw [hBs]
      · rw [updR_ne _ _ his];show stkR B (q.getD i 0) j = stkR A (q.getD i 0) j;rw [h i hi hir his]
  have e2:updR (updR (matQ q A) s (stkR A (q.getD r 0))) r (stkR A (q.getD s 0)) = swapR (matQ q A) s r:=rfl
  have e3:detR N (updR (updR (matQ q A) s (stkR A (q.getD r 0))) r (stkR A (q.getD r 0))) = 0:=(detR_alt N).alt' _ hr hs hne fun j _ => by
    rw [updR_same,updR_ne _ _ (Ne.symm hne),updR_same]
  rw [e,(detR_alt N).add _ r _ _ hr,(detR_alt N).smul _ r c _ hr,(detR_alt N).smul _ r d _ hr,e3,CR.mul_zero,CR.zero_add,e2,(detR_alt N).swap _ hs hr (Ne.symm hne),CR.mul_neg,CR.neg_mul]
  rfl
theorem stk_opP_lo (t:LP) {a:Nat} (h1:1 ≤ a) (h2:a < 100) (A:Mtx LP):stkR (opP t a A) (a - 1) = fun j => (1 + -t) * stkR A (a - 1) j + t * stkR A a j:=by
  funext j
  simp only [stkR,opP]
  rw [if_pos (by omega),if_pos (by omega),if_pos (by omega),if_pos (by omega),show a - 1 + 1 = a by omega]
theorem stk_opP_hi (t:LP) {a:Nat} (h1:1 ≤ a) (h2:a < 100) (A:Mtx LP):stkR (opP t a A) a = stkR A (a - 1):=by
  funext j
  simp only [stkR,opP]
  rw [if_pos (by omega),if_neg (by omega),if_pos trivial,if_pos (by omega)]
theorem stk_opN_lo (t:LP) {a:Nat} (h1:1 ≤ a) (h2:a < 100) (A:Mtx LP):stkR (opN t a A) (a - 1) = stkR A a:=by
  funext j
  simp only [stkR,opN]
  rw [if_pos (by omega),if_pos (by omega),if_pos (by omega),show a - 1 + 1 = a by omega]
theorem stk_opN_hi (t:LP) {a:Nat} (h1:1 ≤ a) (h2:a < 100) (A:Mtx LP):stkR (opN t a A) a = fun j => (1 + -t) * stkR A a j + t * stkR A (a - 1) j:=by
  funext j
  simp only [stkR,opN]
  rw [if_pos (by omega),if_neg (by omega),if_pos trivial,if_pos (by omega),if_pos (by omega),CR.add_comm]
theorem stk_opP_ne (t:LP) {a p:Nat} (A:Mtx LP) (h1:p + 1 ≠ a) (h2:p ≠ a):stkR (opP t a A) p = stkR A p:=by
  funext j
  simp only [stkR,opP]
  rw [if_neg h1,if_neg h2]
theorem stk_opN_ne (t:LP) {a p:Nat} (A:Mtx LP) (h1:p + 1 ≠ a) (h2:p ≠ a):stkR (opN t a A) p = stkR A p:=by
  funext j
  simp only [stkR,opN]
  rw [if_neg h1,if_neg h2]

/-! ### rows given by sets -/
def onesT (T:Nat):List Nat:=(List.range 6).filter fun b => T.testBit b
def popS (S i:Nat):Nat:=(List.range i).countP fun b => S.testBit b
def qST (N S T:Nat):List Nat:=(List.range N).map fun i => if S.testBit i then (onesT T).getD (popS S i) 0 else 100 + i
def goodB (N S T:Nat):Bool:=decide (T < 2 ^ (N + 1)) && ((onesT T).length == popS S N)
def onlyB (q:List Nat) (p r:Nat):Bool:=decide (r < q.length) && ((q.getD r 0 == p) && (List.range q.length).all fun i => (i == r) || (q.getD i 0 != p))
def noneB (q:List Nat) (p:Nat):Bool:=(List.range q.length).all fun i => q.getD i 0 != p
def selS (N S T a:Nat):Bool:=
  let q:=qST N S T
  if T.testBit (a - 1) then
    (if T.testBit a then onlyB q (a - 1) (q.idxOf (a - 1)) && onlyB q a (q.idxOf a)
     else onlyB q (a - 1) (q.idxOf (a - 1)) && (noneB q a && (goodB N S (T + 2 ^ (a - 1)) && (q.set (q.idxOf (a - 1)) a == qST N S (T + 2 ^ (a - 1))))))
  else (if T.testBit a then noneB q (a - 1) && (onlyB q a (q.idxOf a) && (goodB N S (T - 2 ^ (a - 1)) && (q.set (q.idxOf a) (a - 1) == qST N S (T - 2 ^ (a - 1)))))
     else noneB q (a - 1) && noneB q a)
def selAll:Bool:=(List.range 6).all fun N => (List.range (2 ^ N)).all fun S => (List.range (2 ^ (N + 1))).all fun T => !goodB N S T || (List.range (N + 1)).all fun a => (a == 0) || selS N S T a
theorem sel_all:selAll = true:=by decide +kernel
theorem sel_at {N S T a:Nat} (hN:N ≤ 5) (hS:S < 2 ^ N) (hg:goodB N S T = true) (h1:1 ≤ a) (ha:a ≤ N):selS N S T a = true:=by
  have hT:T < 2 ^ (N + 1):=of_decide_eq_true (Bool.and_eq_true_iff.1 hg).1
  have h:=List.all_eq_true.1 (List.all_eq_true.1 (List.all_eq_true.1 sel_all N (List.mem_range.2 (by omega))) S (List.mem_range.2 hS)) T (List.mem_range.2 hT)
  rw [hg,Bool.not_true,Bool.false_or] at h
  have h2:=List.all_eq_true.1 h a (List.mem_range.2 (by omega))
  rwa [show (a == 0) = false by simp;omega,Bool.false_or] at h2
theorem onlyB_out {q:List Nat} {p r:Nat} (h:onlyB q p r = true):r < q.length ∧ q.getD r 0 = p ∧ ∀ i,i < q.length → i ≠ r → q.getD i 0 ≠ p:=by
  obtain ⟨h1,h2⟩:=Bool.and_eq_true_iff.1 h
  obtain ⟨h2,h3⟩:=Bool.and_eq_true_iff.1 h2
  refine ⟨of_decide_eq_true h1,by simpa using h2,fun i hi hne => ?_⟩
  have:=List.all_eq_true.1 h3 i (List.mem_range.2 hi)
  simp at this
  rcases this with h | h
  · exact absurd h hne
  · exact h
theorem noneB_out {q:List Nat} {p:Nat} (h:noneB q p = true):∀ i,i < q.length → q.getD i 0 ≠ p:=fun i hi => by
  have:=List.all_eq_true.1 h i (List.mem_range.2 hi)
  simpa using this
theorem qST_length (N S T:Nat):(qST N S T).length = N:=by simp [qST]
def wST (N S T:Nat) (A:Mtx LP):LP:=dN N (qST N S T) A
def stepMn (x:Int) (T:Nat):List (Nat × List Tm):=
  if T.testBit (x.natAbs - 1) then
    (if T.testBit x.natAbs then [(T,[(if 0 < x then 1 else -1,-1)])]
     else if 0 < x then [(T,[(0,1),(1,-1)]),(T + 2 ^ (x.natAbs - 1),[(1,1)])] else [(T + 2 ^ (x.natAbs - 1),[(0,1)])])
  else (if T.testBit x.natAbs then (if 0 < x then [(T - 2 ^ (x.natAbs - 1),[(0,1)])] else [(T,[(0,1),(-1,-1)]),(T - 2 ^ (x.natAbs - 1),[(-1,1)])])
     else [(T,[(0,1)])])
def valV (N S:Nat) (A:Mtx LP):List (Nat × List Tm) → LP
  | [] => 0
  | p :: v => LP.mk p.2 * wST N S p.1 A + valV N S A v
theorem mk_one:LP.mk [(0,1)] = 1:=rfl
theorem mk_tT:LP.mk [(1,1)] = tT:=rfl
theorem mk_tI:LP.mk [(-1,1)] = tI:=rfl
theorem mk_1t:LP.mk [(0,1),(1,-1)] = 1 + -tT:=LP.ext fun k => by
  unfold tT
  rw [LP.co_add,LP.co_neg,LP.co_one,LP.co_term,LP.co_mk]
  show (if (0:Int) = k then (1:Int) else 0) + ((if (1:Int) = k then (-1:Int) else 0) + 0) = _
  grind
theorem mk_1i:LP.mk [(0,1),(-1,-1)] = 1 + -tI:=LP.ext fun k => by
  unfold tI
  rw [LP.co_add,LP.co_neg,LP.co_one,LP.co_term,LP.co_mk]
  show (if (0:Int) = k then (1:Int) else 0) + ((if (-1:Int) = k then (-1:Int) else 0) + 0) = _
  grind
theorem mk_nt:LP.mk [(1,-1)] = -tT:=LP.ext fun k => by
  unfold tT
  rw [LP.co_neg,LP.co_term,LP.co_mk]
  show (if (1:Int) = k then (-1:Int) else 0) + 0 = _
  grind
theorem mk_ni:LP.mk [(-1,-1)] = -tI:=LP.ext fun k => by
  unfold tI
  rw [LP.co_neg,LP.co_term,LP.co_mk]
  show (if (-1:Int) = k then (-1:Int) else 0) + 0 = _
  grind
theorem stepMn_good {N S T:Nat} {x:Int} (hN:N ≤ 5) (hS:S < 2 ^ N) (hg:goodB N S T = true) (h0:x ≠ 0) (hx:x.natAbs ≤ N):∀ p ∈ stepMn x T,goodB N S p.1 = true:=by
  have h:=sel_at hN hS hg (show 1 ≤ x.natAbs by omega) hx
  unfold selS at h
  unfold stepMn
  intro p hp
  by_cases hlo:T.testBit (x.natAbs - 1) = true
  · simp only [hlo,if_true] at h hp
    by_cases hhi:T.testBit x.natAbs = true
    · simp only [hhi,if_true] at hp
      simp at hp;rw [hp];exact hg
    · simp only [hhi,if_false,Bool.false_eq_true] at h hp
      have hg2:=(Bool.and_eq_true_iff.1 (Bool.and_eq_true_iff.1 (Bool.and_eq_true_iff.1 h).2).2).1
      split at hp
      · simp at hp
        rcases hp with rfl | rfl
        · exact hg
        · exact hg2
      · simp at hp;rw [hp];exact hg2
  · simp only [hlo,if_false,Bool.false_eq_true] at h hp
    by_cases hhi:T.testBit x.natAbs = true
    · simp only [hhi,if_true] at h hp
      have hg2:=(Bool.and_eq_true_iff.1 (Bool.and_eq_true_iff.1 (Bool.and_eq_true_iff.1 h).2).2).1
      split at hp
      · simp at hp;rw [hp];exact hg2
      · simp at hp
        rcases hp with rfl | rfl
        · exact hg
        · exact hg2
    · simp only [hhi,if_false,Bool.false_eq_true] at hp
      simp at hp;rw [hp];exact hg
theorem wST_step {N S T:Nat} {x:Int} (hN:N ≤ 5) (hS:S < 2 ^ N) (hg:goodB N S T = true) (h0:x ≠ 0) (hx:x.natAbs ≤ N) (A:Mtx LP):wST N S T (opL x A) = valV N S A (stepMn x T):=by
  have h:=sel_at hN hS hg (show 1 ≤ x.natAbs by omega) hx
  have hl:=qST_length N S T
  unfold selS at h
  unfold stepMn wST opL
  have h1:1 ≤ x.natAbs:=by omega
  have h2:x.natAbs < 100:=by omega
  obtain ⟨a,ha⟩:∃ a,x.natAbs = a:=⟨_,rfl⟩
  rw [ha] at h h1 h2 hx ⊢
  generalize hq:qST N S T = q at *
  by_cases hlo:T.testBit (a - 1) = true
  · simp only [hlo,if_true] at h ⊢
    by_cases hhi:T.testBit a = true
    · simp only [hhi,if_true] at h ⊢
      obtain ⟨r1,r2,r3⟩:=onlyB_out (Bool.and_eq_true_iff.1 h).1
      obtain ⟨s1,s2,s3⟩:=onlyB_out (Bool.and_eq_true_iff.1 h).2
      generalize q.idxOf (a - 1) = r at *
      generalize q.idxOf a = s at *
      rw [hl] at r1 r3 s1 s3
      have hne:r ≠ s:=fun e => by subst e;omega
      have ho:∀ i,i < N → i ≠ r → i ≠ s → q.getD i 0 + 1 ≠ a ∧ q.getD i 0 ≠ a:=fun i hi e1 e2 => by have:=r3 i hi e1;have:=s3 i hi e2;omega
      by_cases h0x:0 < x
      · rw [if_pos h0x]
        simp only [h0x,if_true]
        rw [dN_two (r:=r) (s:=s) (A:=A) r1 s1 hne (fun i hi e1 e2 => stk_opP_ne _ _ (ho i hi e1 e2).1 (ho i hi e1 e2).2) (1 + -tT) tT (by rw [r2,s2];exact stk_opP_lo _ h1 h2 _) (by rw [r2,s2];exact stk_opP_hi _ h1 h2 _)]
        show _ = LP.mk [(1,-1)] * dN N (qST N S T) A + 0
        rw [hq,mk_nt,CR.add_zero]
      · rw [if_neg h0x]
        simp only [h0x,if_false]
        rw [dN_two (r:=s) (s:=r) (A:=A) s1 r1 (Ne.symm hne) (fun i hi e1 e2 => stk_opN_ne _ _ (ho i hi e2 e1).1 (ho i hi e2 e1).2) (1 + -tI) tI (by rw [r2,s2];exact stk_opN_hi _ h1 h2 _) (by rw [r2,s2];exact stk_opN_lo _ h1 h2 _)]
        show _ = LP.mk [(-1,-1)] * dN N (qST N S T) A + 0
        rw [hq,mk_ni,CR.add_zero]
    · simp only [hhi,if_false,Bool.false_eq_true] at h ⊢
      obtain ⟨r1,r2,r3⟩:=onlyB_out (Bool.and_eq_true_iff.1 h).1
      have s3:=noneB_out (Bool.and_eq_true_iff.1 (Bool.and_eq_true_iff.1 h).2).1
      have e:=(Bool.and_eq_true_iff.1 (Bool.and_eq_true_iff.1 (Bool.and_eq_true_iff.1 h).2).2).2
      generalize q.idxOf (a - 1) = r at *
      rw [hl] at r1 r3 s3
      have e':q.set r a = qST N S (T + 2 ^ (a - 1)):=by simpa using e
      have es:q.set r (a - 1) = q:=by rw [← r2];exact List.ext_getElem (by simp) fun i h1 h2 => by simp [List.getElem_set,List.getD];intro hh;subst hh;simp [h2]
      have ho:∀ i,i < N → i ≠ r → q.getD i 0 + 1 ≠ a ∧ q.getD i 0 ≠ a:=fun i hi e1 => by have:=r3 i hi e1;have:=s3 i hi;omega
      by_cases h0x:0 < x
      · rw [if_pos h0x]
        simp only [h0x,if_true]
        rw [dN_one (r:=r) (A:=A) hl r1 (fun i hi e1 => stk_opP_ne _ _ (ho i hi e1).1 (ho i hi e1).2) (1 + -tT) tT (a - 1) a (by rw [r2];exact stk_opP_lo _ h1 h2 _)]
        show _ = LP.mk [(0,1),(1,-1)] * dN N (qST N S T) A + (LP.mk [(1,1)] * dN N (qST N S (T + 2 ^ (a - 1))) A + 0)
        rw [hq,mk_1t,mk_tT,CR.add_zero,es,e']
      · rw [if_neg h0x]
        simp only [h0x,if_false]
        rw [dN_one (r:=r) (A:=A) hl r1 (fun i hi e1 => stk_opN_ne _ _ (ho i hi e1).1 (ho i hi e1).2) 1 0 a a (by rw [r2,stk_opN_lo _ h1 h2];funext j;rw [CR.one_mul,CR.zero_mul,CR.add_zero])]
        show _ = LP.mk [(0,1)] * dN N (qST N S (T + 2 ^ (a - 1))) A + 0
        rw [mk_one,CR.one_mul,CR.one_mul,CR.zero_mul,e']
  · simp only [hlo,if_false,Bool.false_eq_true] at h ⊢
    by_cases hhi:T.testBit a = true
    · simp only [hhi,if_true] at h ⊢
      have r3:=noneB_out (Bool.and_eq_true_iff.1 h).1
      obtain ⟨s1,s2,s3⟩:=onlyB_out (Bool.and_eq_true_iff.1 (Bool.and_eq_true_iff.1 h).2).1
      have e:=(Bool.and_eq_true_iff.1 (Bool.and_eq_true_iff.1 (Bool.and_eq_true_iff.1 h).2).2).2
      generalize q.idxOf a = s at *
      rw [hl] at r3 s1 s3
      have e':q.set s (a - 1) = qST N S (T - 2 ^ (a - 1)):=by simpa using e
      have es:q.set s a = q:=by rw [← s2];exact List.ext_getElem (by simp) fun i h1 h2 => by simp [List.getElem_set,List.getD];intro hh;subst hh;simp [h2]
      have ho:∀ i,i < N → i ≠ s → q.getD i 0 + 1 ≠ a ∧ q.getD i 0 ≠ a:=fun i hi e1 => by have:=s3 i hi e1;have:=r3 i hi;omega
      by_cases h0x:0 < x
      · rw [if_pos h0x]
        simp only [h0x,if_true]
        rw [dN_one (r:=s) (A:=A) hl s1 (fun i hi e1 => stk_opP_ne _ _ (ho i hi e1).1 (ho i hi e1).2) 1 0 (a - 1) (a - 1) (by rw [s2,stk_opP_hi _ h1 h2];funext j;rw [CR.one_mul,CR.zero_mul,CR.add_zero])]
        show _ = LP.mk [(0,1)] * dN N (qST N S (T - 2 ^ (a - 1))) A + 0
        rw [mk_one,CR.one_mul,CR.one_mul,CR.zero_mul,e']
      · rw [if_neg h0x]
        simp only [h0x,if_false]
        rw [dN_one (r:=s) (A:=A) hl s1 (fun i hi e1 => stk_opN_ne _ _ (ho i hi e1).1 (ho i hi e1).2) (1 + -tI) tI a (a - 1) (by rw [s2];exact stk_opN_hi _ h1 h2 _)]
        show _ = LP.mk [(0,1),(-1,-1)] * dN N (qST N S T) A + (LP.mk [(-1,1)] * dN N (qST N S (T - 2 ^ (a - 1))) A + 0)
        rw [hq,mk_1i,mk_tI,CR.add_zero,es,e']
    · simp only [hhi,if_false,Bool.false_eq_true] at h ⊢
      have r3:=noneB_out (Bool.and_eq_true_iff.1 h).1
      have s3:=noneB_out (Bool.and_eq_true_iff.1 h).2
      rw [hl] at r3 s3
      have ho:∀ i,i < N → q.getD i 0 + 1 ≠ a ∧ q.getD i 0 ≠ a:=fun i hi => by have:=r3 i hi;have:=s3 i hi;omega
      by_cases h0x:0 < x
      · rw [if_pos h0x,dN_none fun i hi => stk_opP_ne _ _ (ho i hi).1 (ho i hi).2]
        show _ = LP.mk [(0,1)] * dN N (qST N S T) A + 0
        rw [hq,mk_one,CR.one_mul,CR.add_zero]
      · rw [if_neg h0x,dN_none fun i hi => stk_opN_ne _ _ (ho i hi).1 (ho i hi).2]
        show _ = LP.mk [(0,1)] * dN N (qST N S T) A + 0
        rw [hq,mk_one,CR.one_mul,CR.add_zero]
end Go.Proofs.YtbedpgcbfbjgiaaGreatDoor
namespace Go.Proofs.YtbedpgcbfbjgiaaGreatDoor
set_option linter.unusedVariables false
set_option linter.unusedSimpArgs false
open LP CR

def insV (T:Nat) (l:List Tm):List (Nat × List Tm) → List (Nat × List Tm)
  | [] => [(T,l)]
  | p :: v => bif Nat.beq T p.1 then (p.1,addT l p.2) :: v else p :: insV T l v
def mulF (l:List Tm):List Tm → List Tm
  | [] => []
  | t :: o => addT (scaleT t.1 t.2 l) (mulF l o)
def addO (l:List Tm):List (Nat × List Tm) → List (Nat × List Tm) → List (Nat × List Tm)
  | [],acc => acc
  | o :: os,acc => insV o.1 (mulF l o.2) (addO l os acc)
def stepV (x:Int):List (Nat × List Tm) → List (Nat × List Tm)
  | [] => []
  | p :: v => addO p.2 (stepMn x p.1) (stepV x v)
theorem val_insV (N S:Nat) (A:Mtx LP) (T:Nat) (l:List Tm):∀ v,valV N S A (insV T l v) = LP.mk l * wST N S T A + valV N S A v
  | [] => rfl
  | p :: v => by
    unfold insV
    by_cases h:Nat.beq T p.1 = true
    · rw [h,cond_true]
      have e:T = p.1:=Nat.eq_of_beq_eq_true h
      show LP.mk (addT l p.2) * wST N S p.1 A + valV N S A v = LP.mk l * wST N S T A + (LP.mk p.2 * wST N S p.1 A + valV N S A v)
      rw [mk_addT,CR.add_mul,← CR.add_assoc,e]
    · rw [show Nat.beq T p.1 = false from (Bool.not_eq_true _).mp h,cond_false]
      show LP.mk p.2 * wST N S p.1 A + valV N S A (insV T l v) = LP.mk l * wST N S T A + (LP.mk p.2 * wST N S p.1 A + valV N S A v)
      rw [val_insV N S A T l v]
      ac_rfl
theorem mk_consT (t:Tm) (o:List Tm):LP.mk (t :: o) = LP.term t.1 t.2 + LP.mk o:=LP.ext fun k => by
  rw [LP.co_add,LP.co_mk,LP.co_mk,LP.co_term]
  show (if t.1 = k then t.2 else 0) + coefT o k = _
  grind
theorem mk_mulF (l:List Tm):∀ o,LP.mk (mulF l o) = LP.mk l * LP.mk o
  | [] => by show (0:LP) = LP.mk l * 0;rw [CR.mul_zero]
  | t :: o => by
    unfold mulF
    rw [mk_addT,mk_scaleT,mk_mulF l o,mk_consT t o,CR.mul_add,CR.mul_comm (LP.term t.1 t.2)]
theorem val_addO (N S:Nat) (A:Mtx LP) (l:List Tm) (acc:List (Nat × List Tm)):∀ os,valV N S A (addO l os acc) = LP.mk l * valV N S A os + valV N S A acc
  | [] => by show _ = LP.mk l * 0 + _;rw [CR.mul_zero,CR.zero_add];rfl
  | o :: os => by
    show valV N S A (insV o.1 (mulF l o.2) (addO l os acc)) = LP.mk l * (LP.mk o.2 * wST N S o.1 A + valV N S A os) + _
    rw [val_insV,val_addO N S A l acc os,mk_mulF,CR.mul_add,CR.mul_assoc,CR.add_assoc]
def goodV (N S:Nat) (v:List (Nat × List Tm)):Prop:=∀ p ∈ v,goodB N S p.1 = true
theorem good_insV {N S T:Nat} {l:List Tm} (hT:goodB N S T = true):∀ {v},goodV N S v → goodV N S (insV T l v)
  | [],_ => fun p hp => by simp [insV] at hp;rw [hp];exact hT
  | p :: v,h => by
    unfold insV
    by_cases e:Nat.beq T p.1 = true
    · rw [e,cond_true]
      intro q hq
      rcases List.mem_cons.1 hq with rfl | hq
      · exact h p (by simp)
      · exact h q (by simp [hq])
    · rw [show Nat.beq T p.1 = false from (Bool.not_eq_true _).mp e,cond_false]
      intro q hq
      rcases List.mem_cons.1 hq with rfl | hq
      · exact h _ (by simp)
      · exact good_insV hT (fun r hr => h r (by simp [hr])) q hq
theorem good_addO {N S:Nat} {l:List Tm} {acc:List (Nat × List Tm)} (ha:goodV N S acc):∀ {os},goodV N S os → goodV N S (addO l os acc)
  | [],_ => ha
  | o :: os,h => good_insV (h o (by simp)) (good_addO ha fun p hp => h p (by simp [hp]))
theorem good_stepV {N S:Nat} {x:Int} (hN:N ≤ 5) (hS:S < 2 ^ N) (h0:x ≠ 0) (hx:x.natAbs ≤ N):∀ {v},goodV N S v → goodV N S (stepV x v)
  | [],_ => fun p hp => by simp [stepV] at hp
  | p :: v,h => good_addO (good_stepV hN hS h0 hx fun q hq => h q (by simp [hq])) (stepMn_good hN hS (h p (by simp)) h0 hx)
theorem val_stepV {N S:Nat} {x:Int} (hN:N ≤ 5) (hS:S < 2 ^ N) (h0:x ≠ 0) (hx:x.natAbs ≤ N) (A:Mtx LP):∀ {v},goodV N S v → valV N S (opL x A) v = valV N S A (stepV x v)
  | [],_ => rfl
  | p :: v,h => by
    show LP.mk p.2 * wST N S p.1 (opL x A) + valV N S (opL x A) v = valV N S A (addO p.2 (stepMn x p.1) (stepV x v))
    rw [val_addO,wST_step hN hS (h p (by simp)) h0 hx,val_stepV hN hS h0 hx A fun q hq => h q (by simp [hq])]
def vecW (T:Nat) (u:List Int):List (Nat × List Tm):=u.foldl (fun v x => stepV x v) [(T,[(0,1)])]
theorem val_word {N S:Nat} (hN:N ≤ 5) (hS:S < 2 ^ N) (A:Mtx LP):∀ {u:List Int} {v},okB (N + 1) u → goodV N S v → valV N S (opW u A) v = valV N S A (u.foldl (fun v x => stepV x v) v) ∧ goodV N S (u.foldl (fun v x => stepV x v) v)
  | [],v,_,h => ⟨rfl,h⟩
  | x :: u,v,hu,h => by
    obtain ⟨h0,h1⟩:=hu x (by simp)
    show valV N S (opL x (opW u A)) v = valV N S A (u.foldl (fun v x => stepV x v) (stepV x v)) ∧ _
    rw [val_stepV hN hS h0 (by omega) _ h]
    exact val_word hN hS A (fun y hy => hu y (by simp [hy])) (good_stepV hN hS h0 (by omega) h)
theorem wST_word {N S T:Nat} (hN:N ≤ 5) (hS:S < 2 ^ N) (hg:goodB N S T = true) {u:List Int} (hu:okB (N + 1) u) (A:Mtx LP):wST N S T (opW u A) = valV N S A (vecW T u) ∧ goodV N S (vecW T u):=by
  have hv:goodV N S [(T,[(0,1)])]:=fun p hp => by simp at hp;rw [hp];exact hg
  have h:=val_word hN hS A hu hv
  refine ⟨?_,h.2⟩
  unfold vecW
  rw [← h.1]
  show _ = LP.mk [(0,1)] * wST N S T (opW u A) + 0
  rw [mk_one,CR.one_mul,CR.add_zero]

/-! ### the check -/
def sumV:List (Nat × List Tm) → Nat
  | [] => 0
  | p :: v => sumA p.2 + sumV v
def supV (E M:Nat) (v:List (Nat × List Tm)):Bool:=v.all fun p => p.2.all fun t => decide (t.1.natAbs ≤ E) && decide (t.2.natAbs ≤ M)
def k3 (k:Nat):Nat:=match k with | 0 => 1 | 1 => 13 | 2 => 21 | 3 => 27 | 4 => 21 | 5 => 13 | _ => 1
def k1 (k:Nat):Nat:=match k with | 0 => 1 | 6 => 1 | _ => 3
def ndV:List (Nat × List Tm) → Bool
  | [] => true
  | p :: v => (v.all fun q => !Nat.beq q.1 p.1) && ndV v
def okV (E M K:Nat) (v:List (Nat × List Tm)):Bool:=decide (sumV v ≤ K) && (supV E M v && ndV v)
def ltr (i:Nat):Int:=if i < 5 then ((i + 1:Nat):Int) else -((i - 4:Nat):Int)
def chkV (E M:Nat):Nat → Nat → List (Nat × List Tm) → Bool
  | 0,K,v => okV E M K v
  | d + 1,K,v => okV E M K v && (List.range 10).all fun i => chkV E M d K (stepV (ltr i) v)
def pop (T:Nat):Nat:=(onesT T).length
def chk3 (lo hi:Nat):Bool:=(List.range (hi - lo)).all fun i => chkV 3 3 3 (k3 (pop (lo + i))) [(lo + i,[(0,1)])]
theorem ltr_all {x:Int} (h0:x ≠ 0) (h:x.natAbs ≤ 5):∃ i,i < 10 ∧ ltr i = x:=by
  by_cases hx:0 < x
  · exact ⟨x.natAbs - 1,by omega,by unfold ltr;rw [if_pos (by omega)];omega⟩
  · exact ⟨x.natAbs + 4,by omega,by unfold ltr;rw [if_neg (by omega)];omega⟩
theorem chkV_ok {E M K:Nat}:∀ {d:Nat} {v},chkV E M d K v = true → okV E M K v = true
  | 0,_,h => h
  | d + 1,_,h => (Bool.and_eq_true_iff.1 h).1
theorem chkV_sound {E M K:Nat}:∀ {d:Nat} {v} {u:List Int},chkV E M d K v = true → (∀ x ∈ u,x ≠ 0 ∧ x.natAbs ≤ 5) → u.length ≤ d → okV E M K (u.foldl (fun v x => stepV x v) v) = true
  | d,v,[],h,_,_ => chkV_ok h
  | 0,v,x :: u,_,_,hl => by simp at hl
  | d + 1,v,x :: u,h,hu,hl => by
    obtain ⟨h0,h1⟩:=hu x (by simp)
    obtain ⟨i,hi,e⟩:=ltr_all h0 h1
    have h2:=List.all_eq_true.1 (Bool.and_eq_true_iff.1 h).2 i (List.mem_range.2 hi)
    rw [e] at h2
    show okV E M K (u.foldl (fun v x => stepV x v) (stepV x v)) = true
    exact chkV_sound (d:=d) h2 (fun y hy => hu y (by simp [hy])) (by simp at hl;omega)
end Go.Proofs.YtbedpgcbfbjgiaaGreatDoor
namespace Go.Proofs.YtbedpgcbfbjgiaaGreatDoor
set_option maxRecDepth 100000
theorem chk3_a:chk3 0 16 = true:=by decide +kernel
theorem chk3_b:chk3 16 32 = true:=by decide +kernel
end Go.Proofs.YtbedpgcbfbjgiaaGreatDoor
namespace Go.Proofs.YtbedpgcbfbjgiaaGreatDoor
set_option maxRecDepth 100000
theorem chk3_c:chk3 32 48 = true:=by decide +kernel
theorem chk3_d:chk3 48 64 = true:=by decide +kernel
end Go.Proofs.YtbedpgcbfbjgiaaGreatDoor
namespace Go.Proofs.YtbedpgcbfbjgiaaGreatDoor
set_option linter.unusedVariables false
set_option linter.unusedSimpArgs false
open LP CR

set_option maxRecDepth 100000
theorem chk3_at {lo hi T:Nat} (h:chk3 lo hi = true) (h1:lo ≤ T) (h2:T < hi):chkV 3 3 3 (k3 (pop T)) [(T,[(0,1)])] = true:=by
  have:=List.all_eq_true.1 h (T - lo) (List.mem_range.2 (by omega))
  rwa [show lo + (T - lo) = T by omega] at this
theorem chk3_all {T:Nat} (h:T < 64):chkV 3 3 3 (k3 (pop T)) [(T,[(0,1)])] = true:=by
  by_cases h1:T < 16
  · exact chk3_at chk3_a (by omega) h1
  · by_cases h2:T < 32
    · exact chk3_at chk3_b (by omega) h2
    · by_cases h3:T < 48
      · exact chk3_at chk3_c (by omega) h3
      · exact chk3_at chk3_d (by omega) h
def chk1B:Bool:=(List.range 64).all fun T => chkV 1 1 1 (k1 (pop T)) [(T,[(0,1)])]
theorem chk1_all:chk1B = true:=by decide +kernel
def basis (p:Nat):Nat:=if p < 100 then p else p - 100
theorem stkR_one (p:Nat):stkR (oneM:Mtx LP) p = oneM (basis p):=by
  funext j
  unfold stkR basis
  split <;> rfl
def degB (N:Nat) (q:List Nat):Bool:=((List.range N).any fun i => basis (q.getD i 0) == N) || (List.range N).any fun i => (List.range N).any fun j => decide (i < j) && (basis (q.getD i 0) == basis (q.getD j 0))
def selO:Bool:=(List.range 6).all fun N => (List.range (2 ^ N)).all fun S => (List.range (2 ^ (N + 1))).all fun T => !goodB N S T || (if T = S then (List.range N).all fun i => (qST N S T).getD i 0 == (if S.testBit i then i else 100 + i) else degB N (qST N S T))
theorem sel_o:selO = true:=by decide +kernel
theorem selO_at {N S T:Nat} (hN:N ≤ 5) (hS:S < 2 ^ N) (hg:goodB N S T = true):(if T = S then (List.range N).all fun i => (qST N S T).getD i 0 == (if S.testBit i then i else 100 + i) else degB N (qST N S T)) = true:=by
  have hT:T < 2 ^ (N + 1):=of_decide_eq_true (Bool.and_eq_true_iff.1 hg).1
  have h:=List.all_eq_true.1 (List.all_eq_true.1 (List.all_eq_true.1 sel_o N (List.mem_range.2 (by omega))) S (List.mem_range.2 hS)) T (List.mem_range.2 hT)
  rwa [hg,Bool.not_true,Bool.false_or] at h
theorem qST_self {N S:Nat} (hN:N ≤ 5) (hS:S < 2 ^ N) (hg:goodB N S S = true) {i:Nat} (hi:i < N):(qST N S S).getD i 0 = if S.testBit i then i else 100 + i:=by
  have h:=selO_at hN hS hg
  rw [if_pos rfl] at h
  have:=List.all_eq_true.1 h i (List.mem_range.2 hi)
  simpa using this
theorem wST_one {N S:Nat} (hN:N ≤ 5) (hS:S < 2 ^ N) (hg:goodB N S S = true):wST N S S oneM = 1:=by
  unfold wST dN
  rw [← detR_one (R:=LP) N]
  refine detR_congr fun i hi j hj => ?_
  unfold matQ
  rw [stkR_one,qST_self hN hS hg hi]
  have e:basis (if S.testBit i then i else 100 + i) = i:=by unfold basis;split <;> split <;> omega
  rw [e]
theorem wST_zero {N S T:Nat} (hN:N ≤ 5) (hS:S < 2 ^ N) (hg:goodB N S T = true) (hne:T ≠ S):wST N S T oneM = 0:=by
  have h:=selO_at hN hS hg
  rw [if_neg hne] at h
  unfold degB at h
  unfold wST dN
  rcases Bool.or_eq_true_iff.1 h with h | h
  · obtain ⟨i,hi,h1⟩:=List.any_eq_true.1 h
    have hi:=List.mem_range.1 hi
    have hb:basis ((qST N S T).getD i 0) = N:=by simpa using h1
    have e:detR N (matQ (qST N S T) oneM) = detR N (updR (matQ (qST N S T) oneM) i fun _ => 0):=detR_congr fun r hr j hj => by
      by_cases hri:r = i
      · subst hri
        rw [updR_same]
        unfold matQ
        rw [stkR_one,hb]
        exact if_neg (by omega)
      · rw [updR_ne _ _ hri]
    rw [e,(detR_alt N).zero _ hi]
  · obtain ⟨i,hi,h1⟩:=List.any_eq_true.1 h
    obtain ⟨j,hj,h2⟩:=List.any_eq_true.1 h1
    have hi:=List.mem_range.1 hi
    have hj:=List.mem_range.1 hj
    obtain ⟨h3,h4⟩:=Bool.and_eq_true_iff.1 h2
    have hlt:i < j:=of_decide_eq_true h3
    have hb:basis ((qST N S T).getD i 0) = basis ((qST N S T).getD j 0):=by simpa using h4
    exact (detR_alt N).alt _ i j hlt hj fun k _ => by
      show stkR oneM _ k = stkR oneM _ k
      rw [stkR_one,stkR_one,hb]
structure CE (x:LP) (E V:Nat):Prop where
  ex:∀ k,LP.co x k ≠ 0 → k.natAbs ≤ E
  cf:∀ k,(LP.co x k).natAbs ≤ V
theorem CE.mono {x:LP} {E V E' V':Nat} (h:CE x E V) (h1:E ≤ E') (h2:V ≤ V'):CE x E' V':=⟨fun k hk => Nat.le_trans (h.ex k hk) h1,fun k => Nat.le_trans (h.cf k) h2⟩
theorem CE.zero (E:Nat):CE 0 E 0:=⟨fun k hk => absurd (LP.co_zero k) hk,fun k => by rw [LP.co_zero];exact Nat.le_refl _⟩
theorem CE.add {x y:LP} {E V V':Nat} (hx:CE x E V) (hy:CE y E V'):CE (x + y) E (V + V'):=by
  refine ⟨fun k hk => ?_,fun k => ?_⟩
  · rw [LP.co_add] at hk
    by_cases h:LP.co x k = 0
    · exact hy.ex k (by omega)
    · exact hx.ex k h
  · rw [LP.co_add]
    have:=hx.cf k
    have:=hy.cf k
    omega
theorem CE.neg {x:LP} {E V:Nat} (hx:CE x E V):CE (-x) E V:=⟨fun k hk => hx.ex k (by rw [LP.co_neg] at hk;omega),fun k => by rw [LP.co_neg,Int.natAbs_neg];exact hx.cf k⟩
theorem CE.mul {y:LP} {E E2 V:Nat} (hy:CE y E V):∀ (l:List Tm),(∀ t ∈ l,t.1.natAbs ≤ E2) → CE (LP.mk l * y) (E2 + E) (sumA l * V)
  | [],_ => by
    show CE (0 * y) _ _
    rw [CR.zero_mul]
    exact (CE.zero _).mono (Nat.le_refl _) (Nat.zero_le _)
  | t :: l,h => by
    rw [mk_consT,CR.add_mul,show sumA (t :: l) * V = t.2.natAbs * V + sumA l * V by show (t.2.natAbs + sumA l) * V = _;rw [Nat.add_mul]]
    refine CE.add ⟨fun k hk => ?_,fun k => ?_⟩ (CE.mul hy l fun u hu => h u (by simp [hu]))
    · rw [LP.co_term_mul] at hk
      have h1:=hy.ex (k - t.1) (fun e => hk (by rw [e,Int.mul_zero]))
      have h2:=h t (by simp)
      omega
    · rw [LP.co_term_mul,Int.natAbs_mul]
      exact Nat.mul_le_mul (Nat.le_refl _) (hy.cf _)
theorem supV_ex {E M:Nat} {v:List (Nat × List Tm)} (h:supV E M v = true) {p:Nat × List Tm} (hp:p ∈ v):(∀ t ∈ p.2,t.1.natAbs ≤ E) ∧ ∀ t ∈ p.2,t.2.natAbs ≤ M:=by
  have h1:=List.all_eq_true.1 h p hp
  exact ⟨fun t ht => of_decide_eq_true (Bool.and_eq_true_iff.1 (List.all_eq_true.1 h1 t ht)).1,fun t ht => of_decide_eq_true (Bool.and_eq_true_iff.1 (List.all_eq_true.1 h1 t ht)).2⟩
def Bd (N S E V:Nat) (A:Mtx LP):Prop:=∀ T,goodB N S T = true → CE (wST N S T A) E V
theorem Bd.val {N S E E2 M V:Nat} {A:Mtx LP} (h:Bd N S E V A):∀ {v},goodV N S v → supV E2 M v = true → CE (valV N S A v) (E2 + E) (sumV v * V)
  | [],_,_ => (CE.zero _).mono (Nat.le_refl _) (Nat.zero_le _)
  | p :: v,hg,hs => by
    show CE (LP.mk p.2 * wST N S p.1 A + valV N S A v) _ ((sumA p.2 + sumV v) * V)
    rw [Nat.add_mul]
    refine CE.add (CE.mul (h p.1 (hg p (by simp))) p.2 (supV_ex hs (by simp)).1) (h.val (M:=M) (fun q hq => hg q (by simp [hq])) ?_)
    unfold supV at hs ⊢
    rw [List.all_cons] at hs
    exact (Bool.and_eq_true_iff.1 hs).2
theorem good_lt {N S T:Nat} (hN:N ≤ 5) (hg:goodB N S T = true):T < 64 ∧ pop T = popS S N:=by
  obtain ⟨h1,h2⟩:=Bool.and_eq_true_iff.1 hg
  have h3:T < 2 ^ (N + 1):=of_decide_eq_true h1
  have h4:2 ^ (N + 1) ≤ 2 ^ 6:=Nat.pow_le_pow_right (by omega) (by omega)
  exact ⟨by omega,by unfold pop;simpa using h2⟩
theorem okB_five {N:Nat} (hN:N ≤ 5) {u:List Int} (hu:okB (N + 1) u):∀ x ∈ u,x ≠ 0 ∧ x.natAbs ≤ 5:=fun x hx => by have:=hu x hx;omega
theorem Bd.block {N S E V:Nat} {A:Mtx LP} (hN:N ≤ 5) (hS:S < 2 ^ N) (h:Bd N S E V A) {u:List Int} (hu:okB (N + 1) u) (hl:u.length ≤ 3):Bd N S (3 + E) (k3 (popS S N) * V) (opW u A):=fun T hg => by
  obtain ⟨e,hv⟩:=wST_word hN hS hg hu A
  obtain ⟨h64,hp⟩:=good_lt hN hg
  have hc:=chkV_sound (chk3_all h64) (okB_five hN hu) hl
  obtain ⟨c1,c2⟩:=Bool.and_eq_true_iff.1 hc
  rw [hp] at c1
  rw [e]
  exact (h.val hv (Bool.and_eq_true_iff.1 c2).1).mono (Nat.le_refl _) (Nat.mul_le_mul (of_decide_eq_true c1) (Nat.le_refl _))
theorem Bd.letter {N S E V:Nat} {A:Mtx LP} (hN:N ≤ 5) (hS:S < 2 ^ N) (h:Bd N S E V A) {u:List Int} (hu:okB (N + 1) u) (hl:u.length ≤ 1):Bd N S (1 + E) (k1 (popS S N) * V) (opW u A):=fun T hg => by
  obtain ⟨e,hv⟩:=wST_word hN hS hg hu A
  obtain ⟨h64,hp⟩:=good_lt hN hg
  have hc:=chkV_sound (List.all_eq_true.1 chk1_all T (List.mem_range.2 h64)) (okB_five hN hu) hl
  obtain ⟨c1,c2⟩:=Bool.and_eq_true_iff.1 hc
  rw [hp] at c1
  rw [e]
  exact (h.val hv (Bool.and_eq_true_iff.1 c2).1).mono (Nat.le_refl _) (Nat.mul_le_mul (of_decide_eq_true c1) (Nat.le_refl _))
/-! ### exponents are distinct -/
def NdT (l:List Tm):Prop:=(l.map fun t => t.1).Nodup
theorem insT_keys (e c:Int):∀ l:List Tm,(∀ k,k ∈ (insT e c l).map (fun t => t.1) → k = e ∨ k ∈ l.map fun t => t.1) ∧ (NdT l → NdT (insT e c l))
  | [] => ⟨fun k hk => by simp [insT] at hk;exact .inl hk,fun _ => by simp [NdT,insT]⟩
  | p :: l => by
    obtain ⟨h1,h2⟩:=insT_keys e c l
    unfold insT
    by_cases h:e = p.1
    · rw [if_pos h]
      exact ⟨fun k hk => .inr (by simpa using hk),fun hn => by simpa [NdT] using hn⟩
    · rw [if_neg h]
      refine ⟨fun k hk => ?_,fun hn => ?_⟩
      · rw [List.map_cons] at hk ⊢
        rcases List.mem_cons.1 hk with hk | hk
        · exact .inr (by simp [hk])
        · rcases h1 k hk with h3 | h3
          · exact .inl h3
          · exact .inr (List.mem_cons_of_mem _ h3)
      · unfold NdT at hn ⊢
        rw [List.map_cons,List.nodup_cons] at hn ⊢
        refine ⟨fun hm => ?_,h2 hn.2⟩
        rcases h1 _ hm with h3 | h3
        · exact h h3.symm
        · exact hn.1 h3
theorem addT_nd {b:List Tm} (hb:NdT b):∀ a:List Tm,NdT (addT a b)
  | [] => hb
  | p :: a => (insT_keys p.1 p.2 _).2 (addT_nd hb a)
theorem mulF_nd (l:List Tm):∀ o,NdT (mulF l o)
  | [] => List.nodup_nil
  | t :: o => addT_nd (mulF_nd l o) _
def NdV (v:List (Nat × List Tm)):Prop:=∀ p ∈ v,NdT p.2
theorem insV_nd {T:Nat} {l:List Tm} (hl:NdT l):∀ {v},NdV v → NdV (insV T l v)
  | [],_ => fun p hp => by simp [insV] at hp;rw [hp];exact hl
  | p :: v,h => by
    unfold insV
    by_cases e:Nat.beq T p.1 = true
    · rw [e,cond_true]
      intro q hq
      rcases List.mem_cons.1 hq with rfl | hq
      · exact addT_nd (h p (by simp)) l
      · exact h q (by simp [hq])
    · rw [show Nat.beq T p.1 = false from (Bool.not_eq_true _).mp e,cond_false]
      intro q hq
      rcases List.mem_cons.1 hq with rfl | hq
      · exact h _ (by simp)
      · exact insV_nd hl (fun r hr => h r (by simp [hr])) q hq
theorem addO_nd {l:List Tm} {acc:List (Nat × List Tm)} (ha:NdV acc):∀ os,NdV (addO l os acc)
  | [] => ha
  | o :: os => insV_nd (mulF_nd l o.2) (addO_nd ha os)
theorem stepV_nd (x:Int):∀ v,NdV (stepV x v)
  | [] => fun p hp => by simp [stepV] at hp
  | p :: v => addO_nd (stepV_nd x v) _
theorem vecW_nd (T:Nat) (u:List Int):NdV (vecW T u):=by
  have h:∀ (u:List Int) (v:List (Nat × List Tm)),NdV v → NdV (u.foldl (fun v x => stepV x v) v):=by
    intro u
    induction u with
    | nil => intro v hv;exact hv
    | cons x u ih => intro v hv;exact ih _ (stepV_nd x v)
  exact h u _ fun p hp => by simp at hp;rw [hp];simp [NdT]
theorem nd_co {M:Nat} (k:Int):∀ {l:List Tm},NdT l → (∀ t ∈ l,t.2.natAbs ≤ M) → (coefT l k).natAbs ≤ M ∧ (k ∉ l.map (fun t => t.1) → coefT l k = 0)
  | [],_,_ => ⟨Nat.zero_le _,fun _ => rfl⟩
  | t :: l,hn,hm => by
    unfold NdT at hn
    rw [List.map_cons,List.nodup_cons] at hn
    obtain ⟨h1,h2⟩:=nd_co k (l:=l) hn.2 fun u hu => hm u (by simp [hu])
    show ((if t.1 = k then t.2 else 0) + coefT l k).natAbs ≤ M ∧ (_ → (if t.1 = k then t.2 else 0) + coefT l k = 0)
    by_cases h:t.1 = k
    · rw [if_pos h,h2 (by rw [← h];exact hn.1)]
      exact ⟨by have:=hm t (by simp);omega,fun hk => absurd (by simp [h]) hk⟩
    · rw [if_neg h,Int.zero_add]
      exact ⟨h1,fun hk => h2 fun hm => hk (by simp [hm])⟩
theorem mk_ex {E:Nat} {k:Int}:∀ {l:List Tm},(∀ t ∈ l,t.1.natAbs ≤ E) → coefT l k ≠ 0 → k.natAbs ≤ E
  | [],_,h => absurd rfl h
  | t :: l,hm,h => by
    by_cases e:t.1 = k
    · have:=hm t (by simp);omega
    · refine mk_ex (l:=l) (fun u hu => hm u (by simp [hu])) fun h0 => h ?_
      show (if t.1 = k then t.2 else 0) + coefT l k = 0
      rw [if_neg e,h0];rfl
theorem val_first {N S:Nat} (hN:N ≤ 5) (hS:S < 2 ^ N):∀ {v},goodV N S v → supV 3 3 v = true → ndV v = true → NdV v → CE (valV N S oneM v) 3 3 ∧ ((∀ p ∈ v,p.1 ≠ S) → valV N S oneM v = 0)
  | [],_,_,_,_ => ⟨(CE.zero _).mono (Nat.le_refl _) (Nat.zero_le _),fun _ => rfl⟩
  | p :: v,hg,hs,hd,hn => by
    have hs2:supV 3 3 v = true:=by
      unfold supV at hs ⊢
      rw [List.all_cons] at hs
      exact (Bool.and_eq_true_iff.1 hs).2
    obtain ⟨hd1,hd2⟩:=Bool.and_eq_true_iff.1 hd
    obtain ⟨h1,h2⟩:=val_first hN hS (v:=v) (fun q hq => hg q (by simp [hq])) hs2 hd2 fun q hq => hn q (by simp [hq])
    show CE (LP.mk p.2 * wST N S p.1 oneM + valV N S oneM v) 3 3 ∧ (_ → LP.mk p.2 * wST N S p.1 oneM + valV N S oneM v = 0)
    by_cases h:p.1 = S
    · have hz:valV N S oneM v = 0:=h2 fun q hq e => by
        have:=List.all_eq_true.1 hd1 q hq
        rw [e,← h] at this
        simp at this
      have hgS:goodB N S S = true:=by rw [← h];rw [h];have:=hg p (by simp);rwa [h] at this
      rw [hz,h,wST_one hN hS hgS,CR.mul_one,CR.add_zero]
      obtain ⟨e1,e2⟩:=supV_ex hs (p:=p) (by simp)
      refine ⟨⟨fun k hk => ?_,fun k => ?_⟩,fun hne => absurd h (hne p (by simp))⟩
      · rw [LP.co_mk] at hk
        exact mk_ex e1 hk
      · rw [LP.co_mk]
        exact (nd_co k (hn p (by simp)) e2).1
    · rw [wST_zero hN hS (hg p (by simp)) h,CR.mul_zero,CR.zero_add]
      exact ⟨h1,fun hne => h2 fun q hq => hne q (by simp [hq])⟩
theorem Bd.first {N S:Nat} (hN:N ≤ 5) (hS:S < 2 ^ N) {u:List Int} (hu:okB (N + 1) u) (hl:u.length ≤ 3):Bd N S 3 3 (opW u oneM):=fun T hg => by
  obtain ⟨e,hv⟩:=wST_word hN hS hg hu oneM
  obtain ⟨h64,hp⟩:=good_lt hN hg
  have hc:=chkV_sound (chk3_all h64) (okB_five hN hu) hl
  obtain ⟨c1,c2⟩:=Bool.and_eq_true_iff.1 hc
  obtain ⟨c3,c4⟩:=Bool.and_eq_true_iff.1 c2
  rw [e]
  exact (val_first hN hS hv c3 c4 (vecW_nd T u)).1
theorem Bd.w16 {N S:Nat} (hN:N ≤ 5) (hS:S < 2 ^ N) {w:List Int} (hw:okB (N + 1) w) (hl:w.length ≤ 16):Bd N S 16 (k3 (popS S N) ^ 4 * (k1 (popS S N) * 3)) (opW w oneM):=by
  have o:∀ {v:List Int},(∀ x ∈ v,x ∈ w) → okB (N + 1) v:=fun h x hx => hw x (h x hx)
  have e:w = w.take 3 ++ ((w.drop 3).take 3 ++ ((w.drop 6).take 3 ++ ((w.drop 9).take 3 ++ ((w.drop 12).take 1 ++ w.drop 13)))):=by
    have h:∀ (i j:Nat),(w.drop i).take j ++ w.drop (i + j) = w.drop i:=fun i j => by
      have:=List.take_append_drop j (w.drop i)
      rwa [List.drop_drop] at this
    have h12:=h 12 1
    have h9:=h 9 3
    have h6:=h 6 3
    have h3:=h 3 3
    rw [h12,h9,h6,h3,List.take_append_drop]
  have b0:=Bd.first hN hS (u:=w.drop 13) (o fun x hx => List.mem_of_mem_drop hx) (by simp;omega)
  have b1:=b0.letter hN hS (u:=(w.drop 12).take 1) (o fun x hx => List.mem_of_mem_drop (List.mem_of_mem_take hx)) (by simp;omega)
  have b2:=b1.block hN hS (u:=(w.drop 9).take 3) (o fun x hx => List.mem_of_mem_drop (List.mem_of_mem_take hx)) (by simp;omega)
  have b3:=b2.block hN hS (u:=(w.drop 6).take 3) (o fun x hx => List.mem_of_mem_drop (List.mem_of_mem_take hx)) (by simp;omega)
  have b4:=b3.block hN hS (u:=(w.drop 3).take 3) (o fun x hx => List.mem_of_mem_drop (List.mem_of_mem_take hx)) (by simp;omega)
  have b5:=b4.block hN hS (u:=w.take 3) (o fun x hx => List.mem_of_mem_take hx) (by simp;omega)
  intro T hg
  have h:=b5 T hg
  simp only [← opW_append,List.append_assoc] at h
  rw [← e] at h
  refine h.mono (by omega) ?_
  generalize k3 (popS S N) = a
  generalize k1 (popS S N) = b
  rw [show a ^ 4 = a * (a * (a * a)) by rw [Nat.pow_succ,Nat.pow_succ,Nat.pow_succ,Nat.pow_one];ac_rfl]
  have:a * (a * (a * (a * (b * 3)))) = a * (a * (a * a)) * (b * 3):=by ac_rfl
  omega
theorem Bd.w21 {N S:Nat} (hN:N ≤ 5) (hS:S < 2 ^ N) {w:List Int} (hw:okB (N + 1) w) (hl:w.length ≤ 21):Bd N S 21 1162261467 (opW w oneM):=by
  have o:∀ {v:List Int},(∀ x ∈ v,x ∈ w) → okB (N + 1) v:=fun h x hx => hw x (h x hx)
  have e:w = w.take 3 ++ ((w.drop 3).take 3 ++ ((w.drop 6).take 3 ++ ((w.drop 9).take 3 ++ ((w.drop 12).take 3 ++ ((w.drop 15).take 3 ++ w.drop 18))))):=by
    have h:∀ (i j:Nat),(w.drop i).take j ++ w.drop (i + j) = w.drop i:=fun i j => by
      have:=List.take_append_drop j (w.drop i)
      rwa [List.drop_drop] at this
    have h15:=h 15 3
    have h12:=h 12 3
    have h9:=h 9 3
    have h6:=h 6 3
    have h3:=h 3 3
    rw [h15,h12,h9,h6,h3,List.take_append_drop]
  have b0:=Bd.first hN hS (u:=w.drop 18) (o fun x hx => List.mem_of_mem_drop hx) (by simp;omega)
  have b1:=b0.block hN hS (u:=(w.drop 15).take 3) (o fun x hx => List.mem_of_mem_drop (List.mem_of_mem_take hx)) (by simp;omega)
  have b2:=b1.block hN hS (u:=(w.drop 12).take 3) (o fun x hx => List.mem_of_mem_drop (List.mem_of_mem_take hx)) (by simp;omega)
  have b3:=b2.block hN hS (u:=(w.drop 9).take 3) (o fun x hx => List.mem_of_mem_drop (List.mem_of_mem_take hx)) (by simp;omega)
  have b4:=b3.block hN hS (u:=(w.drop 6).take 3) (o fun x hx => List.mem_of_mem_drop (List.mem_of_mem_take hx)) (by simp;omega)
  have b5:=b4.block hN hS (u:=(w.drop 3).take 3) (o fun x hx => List.mem_of_mem_drop (List.mem_of_mem_take hx)) (by simp;omega)
  have b6:=b5.block hN hS (u:=w.take 3) (o fun x hx => List.mem_of_mem_take hx) (by simp;omega)
  intro T hg
  have h:=b6 T hg
  simp only [← opW_append,List.append_assoc] at h
  rw [← e] at h
  refine h.mono (by omega) ?_
  have hk:k3 (popS S N) ≤ 27:=by unfold k3;split <;> omega
  generalize k3 (popS S N) = a at *
  calc a * (a * (a * (a * (a * (a * 3))))) ≤ 27 * (27 * (27 * (27 * (27 * (27 * 3))))):=Nat.mul_le_mul hk (Nat.mul_le_mul hk (Nat.mul_le_mul hk (Nat.mul_le_mul hk (Nat.mul_le_mul hk (Nat.mul_le_mul hk (Nat.le_refl _))))))
    _ ≤ 1162261467:=by decide
end Go.Proofs.YtbedpgcbfbjgiaaGreatDoor
