/- Several texts in one. -/
import Derived.Test.YtbedpgcbfbjgiaaGreatDoorBase1
import Derived.ProofKit
import Derived.SizedLaws
namespace Go.Proofs.YtbedpgcbfbjgiaaGreatDoor.Tl
set_option linter.unusedVariables false
set_option linter.unusedSimpArgs false

def colr (n i:Nat):Bool:=if i < n then i % 2 == 0 else (i - n) % 2 == 1
theorem col_all:(List.range 7).all (fun n => (plan n).all fun d => (List.range (2 * n)).all fun i => colr n (d.getD i 0) == !colr n i) = true:=by decide +kernel
theorem plan_col {n:Nat} (h6:n ≤ 6) {d:List Nat} (hd:d ∈ plan n) {i:Nat} (hi:i < 2 * n):colr n (d.getD i 0) = !colr n i:=by
  have h1:=col_all
  rw [List.all_eq_true] at h1
  have h2:=h1 n (List.mem_range.2 (by omega))
  rw [List.all_eq_true] at h2
  have h3:=h2 d hd
  rw [List.all_eq_true] at h3
  simpa using h3 i (List.mem_range.2 hi)
theorem Base.inv {n:Nat} {f:List Nat} (h:Base n f) {i:Nat} (hi:i < 2 * n):f.getD i 0 < 2 * n ∧ f.getD (f.getD i 0) 0 = i:=by
  have h1:=h.mat.ok.getD hi
  refine ⟨h1,?_⟩
  have h2:=(h.rel hi h1).2 (.inr rfl)
  have h3:=(h.rel h1 hi).1 h2.symm
  rcases h3 with h3 | h3
  · exact absurd h3.symm (h.mat.ne i hi)
  · exact h3.symm

/-! ### a stack of two -/
def lin2 (n:Nat) (a b:List Nat) (i:Nat):Nat:=if i < 2 * n then a.getD i 0 else 2 * n + b.getD (i - 2 * n) 0
def jnt2 (n i:Nat):Option Nat:=if i < n then none else if i < 2 * n then some (i + n) else if i < 3 * n then some (i - n) else none
def pl2 (n i:Nat):Nat:=if i < 2 * n then i else i - n
def st2 (n k:Nat):Nat:=if k < n then k else 2 * n + k
def pt2 (n e:Nat):Nat:=if e < n then e else e - 2 * n
theorem dg2 {n:Nat} {a b:List Nat} (ha:Base n a) (hb:Base n b):Dg (4 * n) (lin2 n a b) (jnt2 n):=by
  refine ⟨fun i hi => ?_,fun i hi => ?_,fun i j hi hj => ?_,fun i j hi hj => ?_⟩
  · unfold lin2
    by_cases h:i < 2 * n
    · rw [if_pos h];have:=(ha.inv h).1;omega
    · rw [if_neg h];have:=(hb.inv (i:=i - 2 * n) (by omega)).1;omega
  · unfold lin2
    by_cases h:i < 2 * n
    · rw [if_pos h,if_pos (ha.inv h).1];exact (ha.inv h).2
    · obtain ⟨h1,h2⟩:=hb.inv (i:=i - 2 * n) (by omega)
      rw [if_neg h,if_neg (by omega),Nat.add_sub_cancel_left,h2];omega
  · unfold jnt2 at hj
    split at hj
    · cases hj
    · split at hj
      · injection hj with hj;omega
      · split at hj
        · injection hj with hj;omega
        · cases hj
  · unfold jnt2 at hj ⊢
    split at hj
    · cases hj
    · split at hj
      · injection hj with hj
        rw [if_neg (by omega),if_neg (by omega),if_pos (by omega)]
        congr 1;omega
      · split at hj
        · injection hj with hj
          rw [if_neg (by omega),if_pos (by omega)]
          congr 1;omega
        · cases hj
theorem lb2 {n:Nat} {a b:List Nat} (ha:Base n a) (hb:Base n b):Lb (4 * n) (lin2 n a b) (jnt2 n) (n * 3) (pl2 n) (labS n [a,b]):=by
  have hla:=ha.mat.ok.1
  have hlb:=hb.mat.ok.1
  have e:labS n [a,b] = joins (List.range (n * 3)) (lay 0 a ++ lay n b):=by simp [labS,edges]
  rw [e]
  have ma:∀ i,i < 2 * n → (i,a.getD i 0) ∈ lay 0 a ++ lay n b:=fun i hi => List.mem_append.2 (.inl (by
    unfold lay
    refine List.mem_map.2 ⟨i,List.mem_range.2 (by omega),?_⟩
    rw [Nat.zero_add,Nat.zero_add]))
  have mb:∀ i,i < 2 * n → (n + i,n + b.getD i 0) ∈ lay 0 a ++ lay n b:=fun i hi => List.mem_append.2 (.inr (by
    unfold lay
    exact List.mem_map.2 ⟨i,List.mem_range.2 (by omega),rfl⟩))
  have un:∀ e ∈ lay 0 a ++ lay n b,(∃ i,i < 2 * n ∧ e = (i,a.getD i 0)) ∨ (∃ i,i < 2 * n ∧ e = (n + i,n + b.getD i 0)):=fun e he => by
    rcases List.mem_append.1 he with h | h
    · unfold lay at h
      obtain ⟨i,hi,rfl⟩:=List.mem_map.1 h
      have:=List.mem_range.1 hi
      exact .inl ⟨i,by omega,by rw [Nat.zero_add,Nat.zero_add]⟩
    · unfold lay at h
      obtain ⟨i,hi,rfl⟩:=List.mem_map.1 h
      have:=List.mem_range.1 hi
      exact .inr ⟨i,by omega,rfl⟩
  refine Lb.of (dg2 ha hb) (fun i hi => by unfold pl2;split <;> omega) (fun m hm => ?_) (fun i j hi hj h => ?_) (fun e he => ?_) (fun i hi => ?_) (fun i j hi hj => ?_) (fun e he => ?_)
  · by_cases h:m < 2 * n
    · exact ⟨m,by omega,by unfold pl2;rw [if_pos h]⟩
    · exact ⟨m + n,by omega,by unfold pl2;rw [if_neg (by omega)];omega⟩
  · unfold pl2 at h
    unfold jnt2
    split at h <;> split at h
    · exact .inl h
    · right;rw [if_neg (by omega),if_pos (by omega)];congr 1;omega
    · right;rw [if_neg (by omega),if_neg (by omega),if_pos (by omega),h]
    · left;omega
  · rcases un e he with ⟨i,hi,rfl⟩ | ⟨i,hi,rfl⟩
    · have:=(ha.inv hi).1
      exact ⟨by show i < _;omega,by show a.getD i 0 < _;omega⟩
    · have:=(hb.inv hi).1
      exact ⟨by show n + i < _;omega,by show n + b.getD i 0 < _;omega⟩
  · unfold lin2 pl2
    by_cases h:i < 2 * n
    · rw [if_pos h,if_pos h,if_pos (ha.inv h).1]
      exact ma i h
    · have h1:=(hb.inv (i:=i - 2 * n) (by omega)).1
      rw [if_neg h,if_neg h,if_neg (by omega)]
      have:=mb (i - 2 * n) (by omega)
      rw [show i - n = n + (i - 2 * n) by omega,show 2 * n + b.getD (i - 2 * n) 0 - n = n + b.getD (i - 2 * n) 0 by omega]
      exact this
  · left
    unfold jnt2 at hj
    unfold pl2
    split at hj
    · cases hj
    · split at hj
      · injection hj with hj;rw [if_pos (by omega),if_neg (by omega)];omega
      · split at hj
        · injection hj with hj;rw [if_neg (by omega),if_pos (by omega)];omega
        · cases hj
  · rcases un e he with ⟨i,hi,rfl⟩ | ⟨i,hi,rfl⟩
    · refine ⟨i,a.getD i 0,by omega,?_,?_,.inl ?_⟩
      · unfold pl2;rw [if_pos hi]
      · unfold pl2;rw [if_pos (ha.inv hi).1]
      · unfold lin2;rw [if_pos hi]
    · refine ⟨2 * n + i,2 * n + b.getD i 0,by omega,?_,?_,.inl ?_⟩
      · unfold pl2;rw [if_neg (by omega)];show _ = n + i;omega
      · unfold pl2;rw [if_neg (by omega)];show _ = n + b.getD i 0;omega
      · unfold lin2;rw [if_neg (by omega),Nat.add_sub_cancel_left]
theorem st2_lt {n k:Nat} (hk:k < 2 * n):st2 n k < 4 * n:=by unfold st2;split <;> omega
theorem st2_none {n k:Nat} (hk:k < 2 * n):jnt2 n (st2 n k) = none:=by
  unfold st2 jnt2
  by_cases h:k < n
  · rw [if_pos h,if_pos h]
  · rw [if_neg h,if_neg (by omega),if_neg (by omega),if_neg (by omega)]
theorem st2_pl {n k:Nat} (hk:k < 2 * n):pl2 n (st2 n k) = outer n 2 k:=by
  unfold st2 pl2 outer
  by_cases h:k < n
  · rw [if_pos h,if_pos (by omega),if_pos h]
  · rw [if_neg h,if_neg (by omega),if_neg h];omega
theorem pt2_st {n k:Nat} (hk:k < 2 * n):pt2 n (st2 n k) = k:=by
  unfold st2 pt2
  by_cases h:k < n
  · rw [if_pos h,if_pos h]
  · rw [if_neg h,if_neg (by omega)];omega
theorem st2_pt {n e:Nat} (he:e < 4 * n) (hn:jnt2 n e = none):pt2 n e < 2 * n ∧ st2 n (pt2 n e) = e:=by
  unfold jnt2 at hn
  unfold pt2 st2
  by_cases h:e < n
  · rw [if_pos h];exact ⟨by omega,by rw [if_pos h]⟩
  · rw [if_neg h] at hn
    rw [if_neg h]
    split at hn
    · cases hn
    · split at hn
      · cases hn
      · exact ⟨by omega,by rw [if_neg (by omega)];omega⟩
theorem col2 {n:Nat} (h6:n ≤ 6) {a b:List Nat} (ha:a ∈ plan n) (hb:b ∈ plan n):(∀ i,i < 4 * n → (fun i => if i < 2 * n then colr n i else colr n (i - 2 * n)) (lin2 n a b i) = !(fun i => if i < 2 * n then colr n i else colr n (i - 2 * n)) i) ∧ (∀ i j,i < 4 * n → jnt2 n i = some j → (fun i => if i < 2 * n then colr n i else colr n (i - 2 * n)) j = !(fun i => if i < 2 * n then colr n i else colr n (i - 2 * n)) i):=by
  have Ba:=plan_base h6 ha
  have Bb:=plan_base h6 hb
  constructor
  · intro i hi
    show (if lin2 n a b i < 2 * n then _ else _) = !(if i < 2 * n then _ else _)
    by_cases h:i < 2 * n
    · have e:lin2 n a b i = a.getD i 0:=by unfold lin2;rw [if_pos h]
      rw [e,if_pos (Ba.inv h).1,if_pos h]
      exact plan_col h6 ha h
    · have e:lin2 n a b i = 2 * n + b.getD (i - 2 * n) 0:=by unfold lin2;rw [if_neg h]
      rw [e,if_neg (by omega),if_neg h,Nat.add_sub_cancel_left]
      exact plan_col h6 hb (by omega)
  · intro i j hi hj
    show (if j < 2 * n then _ else _) = !(if i < 2 * n then _ else _)
    unfold jnt2 at hj
    split at hj
    · cases hj
    · split at hj
      · injection hj with hj
        rw [if_neg (by omega),if_pos (by omega),show j - 2 * n = i - n by omega]
        unfold colr
        rw [if_pos (by omega),if_neg (by omega)]
        rcases Nat.mod_two_eq_zero_or_one (i - n) with h | h <;> rw [h] <;> rfl
      · split at hj
        · injection hj with hj
          rw [if_pos (by omega),if_neg (by omega),show i - 2 * n = j - n by omega]
          unfold colr
          rw [if_neg (by omega),if_pos (by omega)]
          rcases Nat.mod_two_eq_zero_or_one (j - n) with h | h <;> rw [h] <;> rfl
        · cases hj
theorem countP_pair {N x y:Nat} (hx:x < N) (hy:y < N) (hne:x ≠ y):(List.range N).countP (fun i => decide (i = x ∨ i = y)) = 2:=by
  rw [countP_but (q:=fun i => decide (i = y)) hx (by simp) (by simpa using hne) (fun i hi => by simp [hi]),countP_but (q:=fun i => false) hy (by simp) rfl (fun i hi => by simpa using hi)]
  rw [List.countP_eq_zero.2 (by simp)]
section
variable {n:Nat} {a b:List Nat} {E:Nat → Nat} {V:Nat → Nat → Bool}
theorem fol_mat (h6:n ≤ 6) (ha:a ∈ plan n) (hb:b ∈ plan n) (hF:∀ k,k < 2 * n → Fol (4 * n) (lin2 n a b) (jnt2 n) (st2 n k) (E k) (V k)):Mat n 2 ((List.range (2 * n)).map fun k => pt2 n (E k)) (labS n [a,b]):=by
  have hL:=lb2 (plan_base h6 ha) (plan_base h6 hb)
  have hg:∀ i,i < 2 * n → ((List.range (2 * n)).map fun k => pt2 n (E k)).getD i 0 = pt2 n (E i):=fun i hi => by simp [List.getD,hi]
  have hE:∀ i,i < 2 * n → pt2 n (E i) < 2 * n ∧ st2 n (pt2 n (E i)) = E i:=fun i hi => st2_pt (hF i hi).elt ((hF i hi).ends (st2_none hi)).1
  obtain ⟨c1,c2⟩:=col2 h6 ha hb
  refine ⟨⟨by simp,fun x hx => ?_⟩,fun i hi => ?_,fun i k hi hk => ?_⟩
  · obtain ⟨k,hk,rfl⟩:=List.mem_map.1 hx
    exact (hE k (List.mem_range.1 hk)).1
  · rw [hg i hi]
    intro e
    have h1:=(hE i hi).2
    rw [e] at h1
    exact (hF i hi).col _ c1 c2 (st2_none hi) h1.symm
  · rw [hg i hi,← st2_pl hi,← st2_pl hk,← hL.fol (st2_lt hi) (hF i hi) (st2_lt hk)]
    constructor
    · intro hv
      rcases ((hF i hi).ends (st2_none hi)).2 _ (st2_lt hk) hv (st2_none hk) with h | h
      · left
        have:=congrArg (pt2 n) h
        rwa [pt2_st hk,pt2_st hi] at this
      · right
        rw [← h,pt2_st hk]
    · rintro (h | h)
      · rw [h];exact (hF i hi).st
      · rw [h,(hE i hi).2];exact (hF i hi).en
theorem fol_mul (h6:n ≤ 6) (ha:a ∈ plan n) (hb:b ∈ plan n) (hF:∀ k,k < 2 * n → Fol (4 * n) (lin2 n a b) (jnt2 n) (st2 n k) (E k) (V k)):(mul n a b).1 = (List.range (2 * n)).map fun k => pt2 n (E k):=(fol_mat h6 ha hb hF).out
theorem fol_cnt (h6:n ≤ 6) (ha:a ∈ plan n) (hb:b ∈ plan n) (hF:∀ k,k < 2 * n → Fol (4 * n) (lin2 n a b) (jnt2 n) (st2 n k) (E k) (V k)) {S:Nat → Bool} (hS:Cl (4 * n) (lin2 n a b) (jnt2 n) S) (h1:∀ k,k < 2 * n → S (st2 n k) = true) (h2:∀ T:Nat → Bool,Cl (4 * n) (lin2 n a b) (jnt2 n) T → (∀ k,k < 2 * n → T (st2 n k) = true) → ∀ x,x < 4 * n → S x = true → T x = true) :
    cntS (pl2 n) (4 * n) (labS n [a,b]) S = n:=by
  have hL:=lb2 (plan_base h6 ha) (plan_base h6 hb)
  have hM:=fol_mat h6 ha hb hF
  generalize ((List.range (2 * n)).map fun k => pt2 n (E k)) = f at hM
  generalize labS n [a,b] = lab at *
  have lt:∀ i ∈ List.range (2 * n),at_ lab (outer n 2 i) < lab.length:=fun i hi => hL.ok.lt _ (by rw [hL.len,← st2_pl (List.mem_range.1 hi)];exact hL.plt _ (st2_lt (List.mem_range.1 hi)))
  have hs:=sum_hit (fun i => at_ lab (outer n 2 i)) lab.length (List.range (2 * n)) lt
  rw [List.length_range] at hs
  have h3:∀ r,r < lab.length → ((List.range (2 * n)).countP fun i => at_ lab (outer n 2 i) == r) = if ((at_ lab r == r) && (List.range (4 * n)).any fun i => (pl2 n i == r) && S i) = true then 2 else 0:=by
    intro r hr
    have ex:∀ k,k < 2 * n → at_ lab (outer n 2 k) = r → ((at_ lab r == r) && (List.range (4 * n)).any fun i => (pl2 n i == r) && S i) = true:=fun k hk hkr => by
      have hrt:at_ lab r = r:=by
        have:=hL.ok.idem (outer n 2 k) (by rw [hL.len,← st2_pl hk];exact hL.plt _ (st2_lt hk))
        rwa [hkr] at this
      obtain ⟨i,hi,hir⟩:=hL.sur r (by rw [← hL.len];exact hr)
      have hsi:S i = true:=by
        rw [← hL.resp S hS (st2 n k) i (st2_lt hk) hi (by unfold same;rw [st2_pl hk,hkr,hir,hrt])]
        exact h1 k hk
      rw [Bool.and_eq_true,List.any_eq_true]
      exact ⟨by simpa using hrt,i,List.mem_range.2 hi,by simp [hir,hsi]⟩
    by_cases hc:((at_ lab r == r) && (List.range (4 * n)).any fun i => (pl2 n i == r) && S i) = true
    · rw [if_pos hc]
      rw [Bool.and_eq_true,List.any_eq_true,beq_iff_eq] at hc
      obtain ⟨hrt,i,hi,hir⟩:=hc
      rw [Bool.and_eq_true,beq_iff_eq] at hir
      have hi:=List.mem_range.1 hi
      have hT:=h2 (fun x => (List.range (2 * n)).any fun k => decide (same lab (outer n 2 k) (pl2 n x))) ⟨fun x hx ht => ?_,fun x y hx hxy ht => ?_⟩ (fun k hk => ?_) i hi hir.2
      · obtain ⟨k,hk,hk2⟩:=List.any_eq_true.1 hT
        have hk:=List.mem_range.1 hk
        have hk2:at_ lab (outer n 2 k) = r:=by
          have:=of_decide_eq_true hk2
          unfold same at this
          rwa [hir.1,hrt] at this
        have hcc:(List.range (2 * n)).countP (fun i => at_ lab (outer n 2 i) == r) = (List.range (2 * n)).countP fun i => decide (i = k ∨ i = f.getD k 0):=by
          refine List.countP_congr fun j hj => ?_
          have:=hM.rel k j hk (List.mem_range.1 hj)
          simp only [beq_iff_eq,decide_eq_true_eq]
          rw [← this]
          unfold same
          rw [hk2]
          exact ⟨fun z => z.symm,fun z => z.symm⟩
        rw [hcc]
        exact countP_pair hk (hM.ok.getD hk) (fun e => hM.ne k hk e.symm)
      · obtain ⟨k,hk,hk2⟩:=List.any_eq_true.1 ht
        exact List.any_eq_true.2 ⟨k,hk,decide_eq_true ((of_decide_eq_true hk2:same lab (outer n 2 k) (pl2 n x)).trans (hL.li x hx))⟩
      · obtain ⟨k,hk,hk2⟩:=List.any_eq_true.1 ht
        exact List.any_eq_true.2 ⟨k,hk,decide_eq_true ((of_decide_eq_true hk2:same lab (outer n 2 k) (pl2 n x)).trans (hL.jo x y hx hxy))⟩
      · exact List.any_eq_true.2 ⟨k,List.mem_range.2 hk,decide_eq_true (by rw [st2_pl hk])⟩
    · rw [if_neg hc,List.countP_eq_zero]
      intro i hi hir
      exact hc (ex i (List.mem_range.1 hi) (by simpa using hir))
  have h4:∀ K,K ≤ lab.length → ((List.range K).map fun r => (List.range (2 * n)).countP fun i => at_ lab (outer n 2 i) == r).sum = 2 * (List.range K).countP fun r => (at_ lab r == r) && (List.range (4 * n)).any fun i => (pl2 n i == r) && S i:=by
    intro K
    induction K with
    | zero => intro _;simp
    | succ K ih =>
      intro hK
      rw [List.range_succ,List.map_append,List.sum_append,List.countP_append,ih (by omega)]
      simp only [List.map_cons,List.map_nil,List.sum_cons,List.sum_nil,List.countP_singleton]
      rw [h3 K (by omega)]
      split <;> omega
  have h5:=h4 lab.length (Nat.le_refl _)
  rw [hs] at h5
  unfold cntS
  omega
end

/-! ### a closure -/
def jntC (n i:Nat):Option Nat:=some (if i < n then n + i else i - n)
theorem dgC {n:Nat} {d:List Nat} (h:Base n d):Dg (2 * n) (fun i => d.getD i 0) (jntC n):=by
  refine ⟨fun i hi => (h.inv hi).1,fun i hi => (h.inv hi).2,fun i j hi hj => ?_,fun i j hi hj => ?_⟩
  · unfold jntC at hj;injection hj with hj;split at hj <;> omega
  · unfold jntC at hj ⊢
    injection hj with hj
    congr 1
    split at hj
    · rw [if_neg (by omega)];omega
    · rw [if_pos (by omega)];omega
theorem lbC {n:Nat} {d:List Nat} (h:Base n d):Lb (2 * n) (fun i => d.getD i 0) (jntC n) (2 * n) id (joins (List.range (2 * n)) (cirE n d)):=by
  have hm:∀ i,i < 2 * n → (i + n) % (2 * n) = if i < n then n + i else i - n:=fun i hi => by
    split
    · rw [Nat.mod_eq_of_lt (by omega)];omega
    · rw [show i + n = i - n + 2 * n by omega,Nat.add_mod_right,Nat.mod_eq_of_lt (by omega)]
  have un:∀ e ∈ cirE n d,∃ i,i < 2 * n ∧ (e = (i,d.getD i 0) ∨ e = (i,(i + n) % (2 * n))):=fun e he => by
    unfold cirE at he
    obtain ⟨i,hi,h2⟩:=List.mem_flatMap.1 he
    refine ⟨i,List.mem_range.1 hi,?_⟩
    simpa using h2
  refine Lb.of (dgC h) (fun i hi => hi) (fun m hm => ⟨m,hm,rfl⟩) (fun i j _ _ e => .inl e) (fun e he => ?_) (fun i hi => ?_) (fun i j hi hj => .inr ?_) (fun e he => ?_)
  · obtain ⟨i,hi,rfl | rfl⟩:=un e he
    · exact ⟨hi,(h.inv hi).1⟩
    · exact ⟨hi,Nat.mod_lt _ (by omega)⟩
  · unfold cirE
    exact List.mem_flatMap.2 ⟨i,List.mem_range.2 hi,by simp⟩
  · unfold cirE jntC at *
    injection hj with hj
    refine List.mem_flatMap.2 ⟨i,List.mem_range.2 hi,?_⟩
    rw [← hj,← hm i hi]
    simp
  · obtain ⟨i,hi,rfl | rfl⟩:=un e he
    · exact ⟨i,d.getD i 0,hi,rfl,rfl,.inl rfl⟩
    · exact ⟨i,(i + n) % (2 * n),hi,rfl,rfl,.inr (by unfold jntC;rw [← hm i hi])⟩
end Go.Proofs.YtbedpgcbfbjgiaaGreatDoor.Tl
namespace Go.Proofs.YtbedpgcbfbjgiaaGreatDoor
set_option linter.unusedVariables false
set_option linter.unusedSimpArgs false
open Go.RowKit

theorem IL.of_row {W:World} {a:Addr} {len cap:Nat} {zs:List Int} (hl:len ≤ cap) (hz:zs.length = cap) (hr:cap * 8 ≤ 140737488351232) (hcell:∀ i,i < zs.length → W.cell? (a.add i) = some (.int .i64 (zs.getD i 0))):IL W (some a) len (zs.take len):=by
  refine ⟨by rw [List.length_take];omega,by omega,fun h0 => ⟨a,rfl,?_,fun j hj => ?_⟩⟩
  · have:=World.block_lt_of_cell? W _ (hcell 0 (by omega))
    rwa [block_of_add] at this
  · rw [hcell j (by omega)]
    simp [List.getD,List.getElem?_take,hj]
end Go.Proofs.YtbedpgcbfbjgiaaGreatDoor
