/- Several texts in one. -/
import Derived.Test.YtbedpgcbfbjgiaaGreatDoorPart27
import Derived.Test.YtbedpgcbfbjgiaaGreatDoorPart4
import Derived.Test.YtbedpgcbfbjgiaaGreatDoorPart3
import Derived.Test.YtbedpgcbfbjgiaaGreatDoorBase1
import Derived.Test.YtbedpgcbfbjgiaaGreatDoorPart1
import Derived.Test.YtbedpgcbfbjgiaaGreatDoorPart15
import Derived.Test.YtbedpgcbfbjgiaaGreatDoorPart2
namespace Go.Proofs.YtbedpgcbfbjgiaaGreatDoor
set_option linter.unusedVariables false
set_option linter.unusedSimpArgs false
namespace Tl
theorem L_fact {n N:Nat} (h1:1 ≤ n) (h3:n ≤ 3) (hN:n ≤ N) (h6:N ≤ 6):chkL n N = true:=by
  have h:=chkL_all
  rw [List.all_eq_true] at h
  have h:=h n (List.mem_range.2 (by omega))
  rw [Bool.or_eq_true,beq_iff_eq] at h
  have h:=h.resolve_left (by omega)
  rw [List.all_eq_true] at h
  have h:=h N (List.mem_range.2 (by omega))
  rw [Bool.or_eq_true,Nat.blt_eq] at h
  exact h.resolve_left (by omega)
theorem L_start {n N:Nat} (h:chkL n N = true):embL n N (straight n) = straight N:=by
  unfold chkL at h
  rw [Bool.and_eq_true] at h
  exact eqL_eq h.1
theorem L_step {n N:Nat} (h:chkL n N = true) {f:List Nat} (hf:f ∈ plan n) :
    mul N (embL n N f) (straight N) = (embL n N f,0) ∧ mul n f (straight n) = (f,0) ∧ ∀ i,1 ≤ i → i < n → mul N (embL n N f) (hook N i) = (embL n N (mul n f (hook n i)).1,(mul n f (hook n i)).2):=by
  unfold chkL at h
  rw [Bool.and_eq_true,List.all_eq_true] at h
  have h2:=h.2 f hf
  rw [forceL_eq,Bool.and_eq_true,Bool.and_eq_true,List.all_eq_true] at h2
  refine ⟨by rw [← eqP_eq h2.1.1,stkF_eq],by rw [← eqP_eq h2.1.2,stkF_eq],fun i hi hn => ?_⟩
  have h3:=eqP_eq (h2.2 (i - 1) (List.mem_range.2 (by omega)))
  rw [show i - 1 + 1 = i by omega,stkF_eq,stkF_eq] at h3
  exact h3
theorem J_fact {n m:Nat} (h1:1 ≤ n) (h3:n ≤ 3) (k1:1 ≤ m) (k3:m ≤ 3):chkJ n m (n - 1) = true ∧ chkJ n m n = true:=by
  have h:=chkJ_all
  rw [List.all_eq_true] at h
  have h:=h n (List.mem_range.2 (by omega))
  rw [Bool.or_eq_true,beq_iff_eq] at h
  have h:=h.resolve_left (by omega)
  rw [List.all_eq_true] at h
  have h:=h m (List.mem_range.2 (by omega))
  rw [Bool.or_eq_true,beq_iff_eq,Bool.and_eq_true] at h
  exact h.resolve_left (by omega)
theorem J_start {n m s:Nat} (h:chkJ n m s = true) {f:List Nat} (hf:f ∈ plan n):jnt n m s f (straight m) = embL n (s + m) f:=by
  unfold chkJ at h
  rw [List.all_eq_true] at h
  have h2:=h f hf
  rw [Bool.and_eq_true] at h2
  exact eqL_eq h2.1
theorem J_step {n m s:Nat} (h:chkJ n m s = true) {f g:List Nat} (hf:f ∈ plan n) (hg:g ∈ plan m) (hlf:f.length = 2 * n) (hlg:g.length = 2 * m) :
    mul (s + m) (jnt n m s f g) (straight (s + m)) = (jnt n m s f g,0) ∧ mul m g (straight m) = (g,0) ∧ cir (s + m) (jnt n m s f g) + (if s < n then 1 else 0) = cir n f + cir m g ∧ 1 ≤ cir n f ∧ 1 ≤ cir m g ∧
      ∀ j,1 ≤ j → j < m → mul (s + m) (jnt n m s f g) (hook (s + m) (j + s)) = (jnt n m s f (mul m g (hook m j)).1,(mul m g (hook m j)).2):=by
  unfold chkJ at h
  rw [List.all_eq_true] at h
  have h2:=h f hf
  rw [Bool.and_eq_true,List.all_eq_true] at h2
  have h3:=h2.2 g hg
  unfold chkR at h3
  rw [forceL_eq] at h3
  simp only [Bool.and_eq_true,List.all_eq_true] at h3
  obtain ⟨⟨⟨⟨⟨⟨a1,a2⟩,a3⟩,a4⟩,a5⟩,a6⟩,a7⟩:=h3
  have e6:=Nat.eq_of_beq_eq_true a6
  have e3:=Nat.eq_of_beq_eq_true a3
  rw [cirF_eq e6,cirF_eq hlf,cirF_eq hlg] at e3
  rw [Nat.ble_eq,cirF_eq hlf] at a4
  rw [Nat.ble_eq,cirF_eq hlg] at a5
  refine ⟨by rw [← eqP_eq a1,stkF_eq],by rw [← eqP_eq a2,stkF_eq],e3,a4,a5,fun j hj hm => ?_⟩
  have h4:=eqP_eq (a7 (j - 1) (List.mem_range.2 (by omega)))
  rw [show j - 1 + 1 = j by omega,stkF_eq,stkF_eq] at h4
  exact h4
end Tl

def shW (o:Nat) (w:List Int):List Int:=w.map fun x => if x < 0 then x - o else x + o
theorem shW_cons (o:Nat) (x:Int) (w:List Int):shW o (x :: w) = (if x < 0 then x - o else x + o) :: shW o w:=rfl
theorem tS_append {n:Nat}:∀ (u v:List Int) (F:List (List Nat) → LP),tS n F (u ++ v) = tS n (fun a => tS n (fun b => F (a ++ b)) v) u
  | [],v,F => rfl
  | x :: u,v,F => by
    show LP.term _ _ * tS n _ (u ++ v) + LP.term _ _ * tS n _ (u ++ v) = LP.term _ _ * tS n _ u + LP.term _ _ * tS n _ u
    rw [tS_append u v,tS_append u v]
    rfl
theorem tS_pull {n:Nat} (c:LP):∀ (w:List Int) (F:List (List Nat) → LP),tS n (fun l => c * F l) w = c * tS n F w
  | [],F => rfl
  | x :: w,F => by
    show LP.term _ _ * tS n _ w + LP.term _ _ * tS n _ w = c * (LP.term _ _ * tS n _ w + LP.term _ _ * tS n _ w)
    rw [tS_pull c w,tS_pull c w,CR.mul_add]
    rw [← CR.mul_assoc,← CR.mul_assoc,← CR.mul_assoc,← CR.mul_assoc,CR.mul_comm c,CR.mul_comm c]
theorem tS_pullr {n:Nat} (c:LP) (w:List Int) (F:List (List Nat) → LP):tS n (fun l => F l * c) w = tS n F w * c:=by
  have h:=tS_pull (n:=n) c w F
  rw [CR.mul_comm (tS n F w) c,← h]
  congr 1
  funext l
  rw [CR.mul_comm]
def stpS (n:Nat) (p:List Nat × Nat) (g:List Nat):List Nat × Nat:=((Tl.mul n p.1 g).1,p.2 + (Tl.mul n p.1 g).2)
theorem tS_sim {n N o:Nat} {R:List Nat × Nat → List Nat × Nat → Prop} {G G':List Nat × Nat → LP}
    (h0:∀ p q,R p q → R (stpS n p (Tl.straight n)) (stpS N q (Tl.straight N)))
    (h1:∀ p q i,R p q → 1 ≤ i → i < n → R (stpS n p (Tl.hook n i)) (stpS N q (Tl.hook N (i + o))))
    (hG:∀ p q,R p q → G p = G' q):∀ (w:List Int),(∀ x ∈ w,x ≠ 0 ∧ x.natAbs < n) → ∀ p q,R p q → tS n (fun l => G (Tl.act n p l)) w = tS N (fun l => G' (Tl.act N q l)) (shW o w)
  | [],_,p,q,h => hG p q h
  | x :: w,hw,p,q,h => by
    have hx:=hw x (by simp)
    have hw2:∀ y ∈ w,y ≠ 0 ∧ y.natAbs < n:=fun y hy => hw y (by simp [hy])
    rw [shW_cons]
    obtain ⟨y,hy⟩:∃ y:Int,(if x < 0 then x - (o:Int) else x + o) = y:=⟨_,rfl⟩
    rw [hy]
    have e1:sgx y = sgx x:=by
      unfold sgx
      rw [← hy]
      split
      · rw [if_neg (by omega),if_neg (by omega)]
      · rw [if_pos (by omega),if_pos (by omega)]
    have e2:y.natAbs = x.natAbs + o:=by rw [← hy];split <;> omega
    show LP.term (sgx x) 1 * tS n (fun l => G (Tl.act n (stpS n p (Tl.straight n)) l)) w + LP.term (-sgx x) 1 * tS n (fun l => G (Tl.act n (stpS n p (Tl.hook n x.natAbs)) l)) w = LP.term (sgx y) 1 * tS N (fun l => G' (Tl.act N (stpS N q (Tl.straight N)) l)) (shW o w) + LP.term (-sgx y) 1 * tS N (fun l => G' (Tl.act N (stpS N q (Tl.hook N y.natAbs)) l)) (shW o w)
    rw [e1,e2,tS_sim h0 h1 hG w hw2 _ _ (h0 p q h),tS_sim h0 h1 hG w hw2 _ _ (h1 p q _ h (by omega) hx.2)]
theorem shW_zero (w:List Int):shW 0 w = w:=by
  unfold shW
  conv => rhs;rw [← List.map_id w]
  refine List.map_congr_left fun x _ => ?_
  show (if x < 0 then x - (0:Nat) else x + (0:Nat)) = x
  split <;> simp
theorem dlt_add:∀ a b:Nat,dlt (a + b) = dlt a * dlt b
  | a,0 => by rw [show dlt 0 = 1 from rfl,CR.mul_one];rfl
  | a,b + 1 => by
    show dlt (a + b) * _ = dlt a * (dlt b * _)
    rw [dlt_add a b,CR.mul_assoc]
theorem plan_len2 {n:Nat} (h6:n ≤ 6) {f:List Nat} (hf:f ∈ Tl.plan n):f.length = 2 * n:=(Tl.plan_base h6 hf).mat.ok.1
theorem plan_mul {n:Nat} (h6:n ≤ 6) {f g:List Nat} (hf:f ∈ Tl.plan n) (hg:g ∈ Tl.gens n):(Tl.mul n f g).1 ∈ Tl.plan n:=(Tl.plan_step h6 hf hg).mem
theorem brk_side_of {n m s:Nat} (h1:1 ≤ n) (k1:1 ≤ m) (hN:n ≤ s + m) (h6:s + m ≤ 6) (hJ:Tl.chkJ n m s = true) (hL:Tl.chkL n (s + m) = true) {x y:List Int} (hx:∀ z ∈ x,z ≠ 0 ∧ z.natAbs < n) (hy:∀ z ∈ y,z ≠ 0 ∧ z.natAbs < m) :
    brk (s + m) (x ++ shW s y) = brk n x * brk m y * dlt (if s < n then 0 else 1):=by
  have inner:∀ (f:List Nat) (k:Nat),f ∈ Tl.plan n → tS (s + m) (fun b => dlt ((Tl.act (s + m) (Tl.embL n (s + m) f,k) b).2 + Tl.cir (s + m) (Tl.act (s + m) (Tl.embL n (s + m) f,k) b).1 - 1)) (shW s y) = dlt (k + Tl.cir n f - 1) * brk m y * dlt (if s < n then 0 else 1):=by
    intro f k hf
    have hlf:=plan_len2 (by omega) hf
    have h:=tS_sim (n:=m) (N:=s + m) (o:=s) (R:=fun p q => p.1 ∈ Tl.plan m ∧ q = (Tl.jnt n m s f p.1,k + p.2))
      (G:=fun p => dlt (k + Tl.cir n f - 1) * dlt (p.2 + Tl.cir m p.1 - 1) * dlt (if s < n then 0 else 1)) (G':=fun q => dlt (q.2 + Tl.cir (s + m) q.1 - 1))
      (fun p q hr => by
        obtain ⟨hp,rfl⟩:=hr
        obtain ⟨a1,a2,_⟩:=Tl.J_step hJ hf hp hlf (plan_len2 (by omega) hp)
        unfold stpS
        refine ⟨by rw [a2];exact hp,?_⟩
        simp only [a1,a2]
        rfl)
      (fun p q i hr hi him => by
        obtain ⟨hp,rfl⟩:=hr
        obtain ⟨_,_,_,_,_,a6⟩:=Tl.J_step hJ hf hp hlf (plan_len2 (by omega) hp)
        unfold stpS
        refine ⟨plan_mul (by omega) hp (hook_gens hi him),?_⟩
        simp only [a6 i hi him]
        rw [Nat.add_assoc])
      (fun p q hr => by
        obtain ⟨hp,rfl⟩:=hr
        obtain ⟨_,_,a3,a4,a5,_⟩:=Tl.J_step hJ hf hp hlf (plan_len2 (by omega) hp)
        show _ = dlt (k + p.2 + Tl.cir (s + m) (Tl.jnt n m s f p.1) - 1)
        rw [← dlt_add,← dlt_add]
        congr 1
        by_cases e:s < n
        · rw [if_pos e] at a3 ⊢;omega
        · rw [if_neg e] at a3 ⊢;omega)
      y hy (Tl.straight m,0) (Tl.embL n (s + m) f,k) ⟨(Tl.gens_plan k1 (by omega) (straight_gens m)).1,by rw [Tl.J_start hJ hf];rfl⟩
    rw [← h]
    have e:(fun l => dlt (k + Tl.cir n f - 1) * dlt ((Tl.act m (Tl.straight m,0) l).2 + Tl.cir m (Tl.act m (Tl.straight m,0) l).1 - 1) * dlt (if s < n then 0 else 1)) = fun l => (dlt (k + Tl.cir n f - 1) * dlt (if s < n then 0 else 1)) * dlt (lps m l - 1):=by
      funext l
      rw [CR.mul_assoc,CR.mul_comm (dlt ((Tl.act m (Tl.straight m,0) l).2 + Tl.cir m (Tl.act m (Tl.straight m,0) l).1 - 1)),← CR.mul_assoc]
      rfl
    rw [e,tS_pull]
    show _ * brk m y = _
    rw [CR.mul_assoc,CR.mul_comm (dlt (if s < n then 0 else 1)),← CR.mul_assoc]
  have outer:=tS_sim (n:=n) (N:=s + m) (o:=0) (R:=fun p q => p.1 ∈ Tl.plan n ∧ q = (Tl.embL n (s + m) p.1,p.2))
    (G:=fun p => dlt (p.2 + Tl.cir n p.1 - 1) * (brk m y * dlt (if s < n then 0 else 1))) (G':=fun q => tS (s + m) (fun b => dlt ((Tl.act (s + m) q b).2 + Tl.cir (s + m) (Tl.act (s + m) q b).1 - 1)) (shW s y))
    (fun p q hr => by
      obtain ⟨hp,rfl⟩:=hr
      obtain ⟨a1,a2,_⟩:=Tl.L_step hL hp
      unfold stpS
      refine ⟨by rw [a2];exact hp,?_⟩
      simp only [a1,a2])
    (fun p q i hr hi him => by
      obtain ⟨hp,rfl⟩:=hr
      obtain ⟨_,_,a3⟩:=Tl.L_step hL hp
      unfold stpS
      refine ⟨plan_mul (by omega) hp (hook_gens hi him),?_⟩
      rw [Nat.add_zero]
      simp only [a3 i hi him])
    (fun p q hr => by
      obtain ⟨hp,rfl⟩:=hr
      show _ = tS (s + m) (fun b => dlt ((Tl.act (s + m) (Tl.embL n (s + m) p.1,p.2) b).2 + Tl.cir (s + m) (Tl.act (s + m) (Tl.embL n (s + m) p.1,p.2) b).1 - 1)) (shW s y)
      rw [inner p.1 p.2 hp,CR.mul_assoc])
    x hx (Tl.straight n,0) (Tl.straight (s + m),0) ⟨(Tl.gens_plan h1 (by omega) (straight_gens n)).1,by rw [Tl.L_start hL]⟩
  rw [shW_zero] at outer
  have e1:brk (s + m) (x ++ shW s y) = tS (s + m) (fun l => tS (s + m) (fun b => dlt ((Tl.act (s + m) (Tl.act (s + m) (Tl.straight (s + m),0) l) b).2 + Tl.cir (s + m) (Tl.act (s + m) (Tl.act (s + m) (Tl.straight (s + m),0) l) b).1 - 1)) (shW s y)) x:=by
    unfold brk
    rw [tS_append]
    congr 1
    funext a
    congr 1
    funext b
    show dlt (lps (s + m) (a ++ b) - 1) = _
    unfold lps actS
    rw [Tl.act_append]
  rw [e1,← outer,tS_pullr,← CR.mul_assoc]
  rfl
theorem brk_side {n m s:Nat} (h1:1 ≤ n) (h3:n ≤ 3) (k1:1 ≤ m) (k3:m ≤ 3) (hs:s = n - 1 ∨ s = n) {x y:List Int} (hx:∀ z ∈ x,z ≠ 0 ∧ z.natAbs < n) (hy:∀ z ∈ y,z ≠ 0 ∧ z.natAbs < m) :
    brk (s + m) (x ++ shW s y) = brk n x * brk m y * dlt (if s < n then 0 else 1):=by
  have hJ:Tl.chkJ n m s = true:=by
    obtain ⟨a,b⟩:=Tl.J_fact h1 h3 k1 k3
    rcases hs with e | e <;> rw [e] <;> assumption
  exact brk_side_of h1 k1 (by omega) (by omega) hJ (Tl.L_fact (n:=n) (N:=s + m) h1 h3 (by omega) (by omega)) hx hy
theorem expo_shW (o:Nat):∀ {w:List Int},(∀ x ∈ w,x ≠ 0) → LP.expo (shW o w) = LP.expo w
  | [],_ => rfl
  | x :: w,h => by
    have hx:=h x (by simp)
    rw [shW_cons,LP.expo_cons,LP.expo_cons,expo_shW o (fun y hy => h y (by simp [hy]))]
    congr 1
    split
    · rw [Int.sign_eq_neg_one_of_neg (by omega),Int.sign_eq_neg_one_of_neg (by omega)]
    · rw [Int.sign_eq_one_of_pos (by omega),Int.sign_eq_one_of_pos (by omega)]
theorem jon_side_of {n m s:Nat} {x y:List Int} (hb:brk (s + m) (x ++ shW s y) = brk n x * brk m y * dlt (if s < n then 0 else 1)) (hy:∀ z ∈ y,z ≠ 0 ∧ z.natAbs < m) :
    jon (s + m) (x ++ shW s y) = jon n x * jon m y * dlt (if s < n then 0 else 1):=by
  unfold jon
  rw [hb,LP.expo_append,expo_shW s (fun z hz => (hy z hz).1)]
  have e:LP.term (-3 * (LP.expo x + LP.expo y)) (if (LP.expo x + LP.expo y) % 2 = 0 then (1:Int) else -1) = LP.term (-3 * LP.expo x) (if LP.expo x % 2 = 0 then 1 else -1) * LP.term (-3 * LP.expo y) (if LP.expo y % 2 = 0 then 1 else -1):=by
    rw [LP.term_mul,show -3 * (LP.expo x + LP.expo y) = -3 * LP.expo x + -3 * LP.expo y by omega]
    congr 1
    by_cases p:LP.expo x % 2 = 0 <;> by_cases q:LP.expo y % 2 = 0
    · rw [if_pos p,if_pos q,if_pos (by omega)];rfl
    · rw [if_pos p,if_neg q,if_neg (by omega)];rfl
    · rw [if_neg p,if_pos q,if_neg (by omega)];rfl
    · rw [if_neg p,if_neg q,if_pos (by omega)];rfl
  rw [e]
  generalize LP.term (-3 * LP.expo x) (if LP.expo x % 2 = 0 then 1 else -1) = a
  generalize LP.term (-3 * LP.expo y) (if LP.expo y % 2 = 0 then 1 else -1) = b
  generalize brk n x = p
  generalize brk m y = q
  generalize dlt (if s < n then 0 else 1) = d
  rw [CR.mul_assoc p a,← CR.mul_assoc a q b,CR.mul_comm a q,CR.mul_assoc q a b,CR.mul_assoc p,CR.mul_assoc p,CR.mul_assoc p]
  congr 1
  rw [CR.mul_assoc q d,CR.mul_comm d,← CR.mul_assoc]
theorem jon_side {n m s:Nat} (h1:1 ≤ n) (h3:n ≤ 3) (k1:1 ≤ m) (k3:m ≤ 3) (hs:s = n - 1 ∨ s = n) {x y:List Int} (hx:∀ z ∈ x,z ≠ 0 ∧ z.natAbs < n) (hy:∀ z ∈ y,z ≠ 0 ∧ z.natAbs < m) :
    jon (s + m) (x ++ shW s y) = jon n x * jon m y * dlt (if s < n then 0 else 1):=jon_side_of (brk_side h1 h3 k1 k3 hs hx hy) hy
end Go.Proofs.YtbedpgcbfbjgiaaGreatDoor
namespace Go.Proofs.YtbedpgcbfbjgiaaGreatDoor
set_option linter.unusedVariables false
set_option linter.unusedSimpArgs false
open CR

/-! ### prime numbers -/
def PrimeC (m:Nat):Prop:=m = 3 ∨ m = 5 ∨ m = 7 ∨ m = 11 ∨ m = 13
theorem PrimeC.gcd {m:Nat} (h:PrimeC m) (s:Int):Int.gcd s m = 1 ∨ Int.gcd s m = m:=by
  have h1:Int.gcd s m ∣ m:=by have:=Int.gcd_dvd_right (a:=s) (b:=(m:Int));exact Int.ofNat_dvd.1 this
  have h13:Int.gcd s m ≤ 13:=Nat.le_trans (Nat.le_of_dvd (by rcases h with h | h | h | h | h <;> omega) h1) (by rcases h with h | h | h | h | h <;> omega)
  generalize Int.gcd s m = d at *
  have key:∀ d,d < 14 → (d ∣ 3 → d = 1 ∨ d = 3) ∧ (d ∣ 5 → d = 1 ∨ d = 5) ∧ (d ∣ 7 → d = 1 ∨ d = 7) ∧ (d ∣ 11 → d = 1 ∨ d = 11) ∧ (d ∣ 13 → d = 1 ∨ d = 13):=by decide
  have k:=key d (by omega)
  rcases h with h | h | h | h | h <;> subst h
  · exact k.1 h1
  · exact k.2.1 h1
  · exact k.2.2.1 h1
  · exact k.2.2.2.1 h1
  · exact k.2.2.2.2 h1
theorem PrimeC.mul {m:Nat} (h:PrimeC m) {a b:Int} (hd:(m:Int) ∣ a * b):(m:Int) ∣ a ∨ (m:Int) ∣ b:=by
  rcases h.gcd a with e | e
  · right
    have h2:m ∣ a.natAbs * b.natAbs:=by rw [← Int.natAbs_mul];exact Int.ofNat_dvd_left.1 hd
    have hc:Nat.Coprime m a.natAbs:=by
      unfold Nat.Coprime
      rw [Nat.gcd_comm]
      exact e
    exact Int.ofNat_dvd_left.2 (hc.dvd_of_dvd_mul_left h2)
  · left
    have:=Int.gcd_dvd_left (a:=a) (b:=(m:Int))
    rwa [e] at this
end Go.Proofs.YtbedpgcbfbjgiaaGreatDoor
namespace Go.Proofs.YtbedpgcbfbjgiaaGreatDoor
set_option linter.unusedVariables false
set_option linter.unusedSimpArgs false
open CR

section
variable {R:Type} [CR R]
theorem det_clear {N:Nat} (T:Mtx R) (c:Nat → R):∀ k,k ≤ N → detR (N + 1) (fun i j => if i < k then T i j + c i * T N j else T i j) = detR (N + 1) T
  | 0,_ => detR_congr fun i _ j _ => by rw [if_neg (by omega)]
  | k + 1,hk => by
    rw [← det_clear T c k (by omega)]
    have h:=(detR_alt (N + 1)).addRow (fun i j => if i < k then T i j + c i * T N j else T i j) (r:=k) (s:=N) (c k) (by omega) (by omega) (by omega)
    rw [← h]
    refine detR_congr fun i hi j hj => ?_
    by_cases e:i = k
    · subst e
      rw [updR_same]
      simp only [if_neg (show ¬ i < i by omega),if_neg (show ¬ N < i by omega),if_pos (show i < i + 1 by omega)]
    · rw [updR_ne _ _ e]
      show (if i < k + 1 then T i j + c i * T N j else T i j) = if i < k then T i j + c i * T N j else T i j
      by_cases h1:i < k
      · rw [if_pos (by omega),if_pos h1]
      · rw [if_neg (by omega),if_neg h1]
theorem det_rowSum {n r:Nat} (T:Mtx R) (c:Nat → R) (hr:r < n):detR n (updR T r fun j => sumN n fun l => c l * T l j) = c r * detR n T:=by
  rw [(detR_alt n).rowSum T hr c T n,sumN_single (k:=r) hr (fun l hl hne => by
    rw [(detR_alt n).alt' (updR T r (T l)) hr hl (Ne.symm hne) (fun j _ => by rw [updR_same,updR_ne _ _ hne]),mul_zero]),updR_self]
theorem det_border {N:Nat} (M:Mtx R) (u:Nat → R) (g:R):detR (N + 1) (fun i j => if i < N then (if j < N then M i j else u i) else (if j = N then g else 0)) = g * detR N M:=by
  have h0:∀ M:Mtx R,detR (N + 1) (fun i j => if i < N then (if j < N then M i j else 0) else (if j = N then (1:R) else 0)) = detR N M:=fun M => by
    have hA:Alt N fun M:Mtx R => detR (N + 1) (fun i j => if i < N then (if j < N then M i j else 0) else (if j = N then (1:R) else 0)):=by
      have hup:∀ (M:Mtx R) (r:Nat) (v:Nat → R),r < N → (fun i j => if i < N then (if j < N then updR M r v i j else 0) else (if j = N then (1:R) else 0)) = updR (fun i j => if i < N then (if j < N then M i j else 0) else (if j = N then (1:R) else 0)) r (fun j => if j < N then v j else 0):=fun M r v hr => by
        funext i j
        by_cases e:i = r
        · subst e;rw [updR_same,if_pos hr,updR_same]
        · rw [updR_ne (fun i j => if i < N then (if j < N then M i j else 0) else (if j = N then (1:R) else 0)) _ e,updR_ne M v e]
      refine ⟨fun A B h => detR_congr fun i hi j hj => ?_,fun M r u v hr => ?_,fun M r c u hr => ?_,fun M r s hrs hs h => ?_⟩
      · by_cases h1:i < N
        · rw [if_pos h1,if_pos h1]
          by_cases h2:j < N
          · rw [if_pos h2,if_pos h2,h i h1 j h2]
          · rw [if_neg h2,if_neg h2]
        · rw [if_neg h1,if_neg h1]
      · show detR (N + 1) _ = detR (N + 1) _ + detR (N + 1) _
        rw [hup M r _ hr,hup M r u hr,hup M r v hr,← (detR_alt (N + 1)).add _ r _ _ (by omega)]
        congr 2
        funext j
        split
        · rfl
        · rw [add_zero]
      · show detR (N + 1) _ = c * detR (N + 1) _
        rw [hup M r _ hr,hup M r u hr,← (detR_alt (N + 1)).smul _ r c _ (by omega)]
        congr 2
        funext j
        split
        · rfl
        · rw [mul_zero]
      · exact (detR_alt (N + 1)).alt _ r s hrs (by omega) fun j hj => by
          show (if r < N then (if j < N then M r j else 0) else _) = if s < N then (if j < N then M s j else 0) else _
          rw [if_pos (by omega),if_pos hs]
          by_cases h2:j < N
          · rw [if_pos h2,if_pos h2,h j h2]
          · rw [if_neg h2,if_neg h2]
    have e:=hA.eq M
    have e1:detR (N + 1) (fun i j => if i < N then (if j < N then (oneM:Mtx R) i j else 0) else (if j = N then (1:R) else 0)) = 1:=by
      refine Eq.trans (detR_congr fun i hi j hj => ?_) (detR_one (R:=R) (N + 1))
      unfold oneM
      by_cases h1:i < N
      · rw [if_pos h1]
        by_cases h2:j < N
        · rw [if_pos h2]
        · rw [if_neg h2,if_neg (by omega)]
      · rw [if_neg h1]
        by_cases h2:j = N
        · rw [if_pos h2,if_pos (by omega)]
        · rw [if_neg h2,if_neg (by omega)]
    exact Eq.trans e (by rw [e1,CR.mul_one])
  have e2:detR (N + 1) (fun i j => if i < N then (if j < N then M i j else u i) else (if j = N then g else 0)) = g * detR (N + 1) (fun i j => if i < N then (if j < N then M i j else u i) else (if j = N then (1:R) else 0)):=by
    have hs:=(detR_alt (N + 1)).smul (fun i j => if i < N then (if j < N then M i j else u i) else (if j = N then (1:R) else 0)) N g (fun j => if j = N then (1:R) else 0) (by omega)
    refine Eq.trans (detR_congr fun i hi j hj => ?_) (hs.trans (congrArg (fun x => g * x) (detR_congr fun i hi j hj => ?_)))
    · by_cases e:i = N
      · subst e
        rw [updR_same,if_neg (show ¬ i < i by omega)]
        split
        · rw [CR.mul_one]
        · rw [mul_zero]
      · rw [updR_ne _ _ e,if_pos (show i < N by omega),if_pos (show i < N by omega)]
    · by_cases e:i = N
      · subst e
        rw [updR_same,if_neg (show ¬ i < i by omega)]
      · rw [updR_ne _ _ e]
  have h3:=det_clear (N:=N) (fun i j => if i < N then (if j < N then M i j else 0) else (if j = N then (1:R) else 0)) u N (Nat.le_refl _)
  rw [e2,← h0 M,← h3]
  congr 1
  refine detR_congr fun i hi j hj => ?_
  by_cases h1:i < N
  · simp only [if_pos h1,if_neg (show ¬ N < N by omega)]
    by_cases h2:j < N
    · rw [if_pos h2,if_pos h2,if_neg (by omega),mul_zero,add_zero]
    · rw [if_neg h2,if_neg h2,if_pos (by omega),CR.mul_one,CR.zero_add]
  · simp only [if_neg h1]
end
def qn (n:Nat):LP:=sumN n tK
theorem one_rowSum {n r:Nat} (hr:r < n):(sumN n fun k => (oneM:Mtx LP) r k) = 1:=by
  have e:=sumN_single (f:=fun k => (oneM:Mtx LP) r k) (k:=r) hr (fun k _ hne => if_neg (Ne.symm hne))
  exact e.trans (if_pos rfl)
theorem tau_col {n:Nat} {w:List Int} (hw:okB n w) {j:Nat} (hj:j < n):(sumN n fun l => tK l * (oneM l j + -(bu n w l j))) = 0:=by
  have e:(sumN n fun l => tK l * (oneM l j + -(bu n w l j))) = sumN n fun l => tK l * oneM l j + -(tK l * bu n w l j):=sumN_congr fun l _ => by rw [mul_add,mul_neg]
  rw [e,sumN_add,sumN_neg,bu_row hw j hj,sumN_single (k:=j) hj (fun l _ hne => by rw [show (oneM:Mtx LP) l j = 0 from if_neg hne,mul_zero]),show (oneM:Mtx LP) j j = 1 from if_pos rfl,CR.mul_one,add_neg]
end Go.Proofs.YtbedpgcbfbjgiaaGreatDoor
namespace Go.Proofs.YtbedpgcbfbjgiaaGreatDoor
set_option linter.unusedVariables false
set_option linter.unusedSimpArgs false
open CR

theorem lp_mul_ne {x y:LP} (hx:x ≠ 0) (hy:y ≠ 0):x * y ≠ 0:=fun h => by
  have hne:∀ z:LP,z ≠ 0 → (LP.canon z).2 ≠ []:=fun z hz e => hz (by rw [← LP.of_canon z,e];rfl)
  have h1:=LP.canon_mul (LP.canon_cano x) (LP.canon_cano y) (hne x hx) (hne y hy)
  rw [LP.of_canon,LP.of_canon,h] at h1
  have l1:=List.length_pos_iff.2 (hne x hx)
  have l2:=List.length_pos_iff.2 (hne y hy)
  have h2:(LP.canon (0:LP)).2 = []:=by
    have:=LP.canon_of (lo:=0) (cs:=[]) (.inl ⟨rfl,rfl⟩)
    rw [show LP.of 0 [] = (0:LP) from rfl] at this
    rw [this]
  rw [h2] at h1
  have:=h1.2
  simp at this
  omega
theorem lp_cancel {q x y:LP} (hq:q ≠ 0) (h:q * x = q * y):x = y:=by
  have h1:q * (x + -y) = 0:=by rw [mul_add,mul_neg,h,add_neg]
  have h2:x + -y = 0:=Classical.byContradiction fun hn => lp_mul_ne hq hn h1
  have h3:x + -y + y = 0 + y:=by rw [h2]
  rwa [add_assoc,neg_add,add_zero,CR.zero_add] at h3
def UnT (u:LP):Prop:=∃ e s:Int,(s = 1 ∨ s = -1) ∧ u = LP.term e s
theorem UnT.mul {u v:LP} (hu:UnT u) (hv:UnT v):UnT (u * v):=by
  obtain ⟨e,s,hs,rfl⟩:=hu
  obtain ⟨f,r,hr,rfl⟩:=hv
  exact ⟨e + f,s * r,by rcases hs with rfl | rfl <;> rcases hr with rfl | rfl <;> decide,by rw [LP.term_mul]⟩
theorem UnT.neg {u:LP} (hu:UnT u):UnT (-u):=by
  obtain ⟨e,s,hs,rfl⟩:=hu
  refine ⟨e,-s,by rcases hs with rfl | rfl <;> decide,LP.ext fun k => ?_⟩
  rw [LP.co_neg,LP.co_term,LP.co_term]
  split <;> rfl
theorem UnT.one:UnT 1:=⟨0,1,.inl rfl,rfl⟩
theorem UnT.tK (k:Nat):UnT (tK k):=⟨k,1,.inl rfl,rfl⟩
/-! ### determinants of words -/
/-! ### the inverse -/
end Go.Proofs.YtbedpgcbfbjgiaaGreatDoor
namespace Go.Proofs.YtbedpgcbfbjgiaaGreatDoor
set_option linter.unusedVariables false
set_option linter.unusedSimpArgs false
open CR

section
variable {R:Type} [CR R]
theorem sumN_cut (f:Nat → R) (a:Nat):∀ b,(∀ i,a ≤ i → i < a + b → f i = 0) → sumN (a + b) f = sumN a f
  | 0,_ => rfl
  | b + 1,h => by
    show sumN (a + b) f + f (a + b) = _
    rw [sumN_cut f a b (fun i h1 h2 => h i h1 (by omega)),h (a + b) (by omega) (by omega),add_zero]
theorem det_block {b:Nat} (C:Mtx R):∀ (a:Nat) (M A:Mtx R),(∀ i,i < a → ∀ j,j < a → M i j = A i j) → (∀ i,a ≤ i → i < a + b → ∀ j,j < a → M i j = 0) → (∀ i,i < b → ∀ j,j < b → M (a + i) (a + j) = C i j) → detC (a + b) M = detC a A * detC b C
  | 0,M,A,_,_,h3 => by
    rw [Nat.zero_add,show detC 0 A = (1:R) from rfl,CR.one_mul]
    exact detC_congr fun i hi j hj => by have:=h3 i hi j hj;rwa [Nat.zero_add,Nat.zero_add] at this
  | a + 1,M,A,h1,h2,h3 => by
    rw [show a + 1 + b = (a + b) + 1 by omega]
    show sumN (a + b + 1) (fun i => sgR R i * (M i 0 * detC (a + b) fun p q => M (skip i p) (q + 1))) = sumN (a + 1) (fun i => sgR R i * (A i 0 * detC a fun p q => A (skip i p) (q + 1))) * detC b C
    rw [show a + b + 1 = (a + 1) + b by omega,sumN_cut _ (a + 1) b (fun i i1 i2 => by rw [h2 i i1 i2 0 (by omega),zero_mul,mul_zero])]
    have e:sumN (a + 1) (fun i => sgR R i * (M i 0 * detC (a + b) fun p q => M (skip i p) (q + 1))) = sumN (a + 1) fun i => detC b C * (sgR R i * (A i 0 * detC a fun p q => A (skip i p) (q + 1))):=sumN_congr fun i hi => by
      rw [h1 i hi 0 (by omega),det_block C a (fun p q => M (skip i p) (q + 1)) (fun p q => A (skip i p) (q + 1)) (fun p hp q hq => h1 _ (by unfold skip;split <;> omega) _ (by omega))
        (fun p p1 p2 q hq => h2 _ (by unfold skip;split <;> omega) (by unfold skip;split <;> omega) _ (by omega))
        (fun p hp q hq => by
          have:=h3 p hp q hq
          rw [show skip i (a + p) = a + 1 + p by unfold skip;rw [if_neg (by omega)];omega,show a + q + 1 = a + 1 + q by omega]
          exact this)]
      rw [CR.mul_comm (detC b C),CR.mul_assoc,CR.mul_assoc]
    rw [e,sumN_mul,CR.mul_comm]
theorem det_rows0 {n:Nat} (M:Mtx R) (h0:0 < n) (h:∀ i,i < n → sumN n (M i) = 0):detR n M = 0:=by
  have h1:=det_rowSum (n:=n) (r:=0) (turnM M) (fun _ => 1) h0
  rw [CR.one_mul,detR_turn] at h1
  rw [← h1]
  rw [← (detR_alt n).zero (turnM M) h0]
  refine detR_congr fun i hi j hj => ?_
  by_cases e:i = 0
  · subst e
    rw [updR_same,updR_same,← h j hj]
    exact sumN_congr fun l _ => CR.one_mul _
  · rw [updR_ne _ _ e,updR_ne _ _ e]
theorem det_move {n:Nat} (M:Mtx R) (τ:Nat → R) (h:∀ j,j < n → sumN n (fun l => τ l * M l j) = 0) {r s:Nat} (hr:r < n) (hs:s < n) (v:Nat → R):τ s * detR n (updR M r v) = τ r * detR n (updR M s v):=by
  by_cases e:r = s
  · subst e;rfl
  have hA:=detR_alt (R:=R) n
  have h1:=hA.rowSum (updR M r v) hs τ M n
  have h2:detR n (updR (updR M r v) s fun j => sumN n fun l => τ l * M l j) = 0:=by
    rw [← hA.zero (updR M r v) hs]
    refine detR_congr fun i hi j hj => ?_
    by_cases e2:i = s
    · subst e2;rw [updR_same,updR_same];exact h j hj
    · rw [updR_ne _ _ e2,updR_ne _ _ e2]
  rw [h2] at h1
  rw [sumN_two hr hs e (fun l hl h3 h4 => by
    rw [hA.alt' (updR (updR M r v) s (M l)) hs hl (Ne.symm h4) (fun j _ => by rw [updR_same,updR_ne _ _ h4,updR_ne _ _ h3]),mul_zero])] at h1
  have e3:detR n (updR (updR M r v) s (M s)) = detR n (updR M r v):=detR_congr fun i hi j hj => by
    by_cases e2:i = s
    · subst e2;rw [updR_same,updR_ne _ _ (Ne.symm e)]
    · rw [updR_ne _ _ e2]
  have e4:detR n (updR (updR M r v) s (M r)) = -detR n (updR M s v):=by
    rw [← hA.swap (updR M s v) hr hs e]
    refine detR_congr fun i hi j hj => ?_
    unfold swapR
    by_cases e2:i = s
    · subst e2;rw [updR_same,updR_same,updR_ne _ _ e]
    · rw [updR_ne _ _ e2,updR_ne _ _ e2]
      by_cases e5:i = r
      · subst e5;rw [updR_same,updR_same,updR_same]
      · rw [updR_ne _ _ e5,updR_ne _ _ e5,updR_ne _ _ e2]
  rw [e3,e4,mul_neg] at h1
  have h5:τ s * detR n (updR M r v) = τ r * detR n (updR M s v) + (-(τ r * detR n (updR M s v)) + τ s * detR n (updR M r v)):=by
    rw [← add_assoc,add_neg,CR.zero_add]
  rw [h5,← h1,add_zero]
theorem det_place {n:Nat} (M:Mtx R) (h:∀ i,i < n → sumN n (M i) = 0) {r s t:Nat} (hr:r < n) (hs:s < n) (ht:t < n):detR n (updR M r (oneM s)) = detR n (updR M r (oneM t)):=by
  have hA:=detR_alt (R:=R) n
  have one:∀ k,k < n → sumN n ((oneM:Mtx R) k) = 1:=fun k hk => by
    have e:=sumN_single (f:=fun j => (oneM:Mtx R) k j) (k:=k) hk (fun i _ hne => if_neg (Ne.symm hne))
    exact e.trans (if_pos rfl)
  have h0:=det_rows0 (n:=n) (updR M r fun j => oneM s j + (-1) * oneM t j) (by omega) (fun i hi => by
    by_cases e:i = r
    · subst e
      rw [updR_same,sumN_add,sumN_mul,one s hs,one t ht,CR.neg_mul,CR.one_mul,add_neg]
    · rw [updR_ne _ _ e];exact h i hi)
  rw [hA.add _ r _ _ hr,hA.smul _ r _ _ hr,CR.neg_mul,CR.one_mul] at h0
  have h5:detR n (updR M r (oneM s)) = (detR n (updR M r (oneM s)) + -detR n (updR M r (oneM t))) + detR n (updR M r (oneM t)):=by rw [add_assoc,neg_add,add_zero]
  rw [h5,h0,CR.zero_add]
end

/-! ### words further right -/
theorem opL_at (x:Int) (A:Mtx LP) (i j:Nat):opL x A i j = if 0 < x then (if i + 1 = x.natAbs then (1 + -tT) * A i j + tT * A (i + 1) j else if i = x.natAbs then A (i - 1) j else A i j) else (if i + 1 = x.natAbs then A (i + 1) j else if i = x.natAbs then tI * A (i - 1) j + (1 + -tI) * A i j else A i j):=by
  unfold opL opP opN
  split <;> rfl
theorem opW_out {n:Nat}:∀ {w:List Int},okB n w → ∀ i j,(n ≤ i ∨ n ≤ j) → opW w (oneM:Mtx LP) i j = oneM i j
  | [],_,_,_,_ => rfl
  | x :: w,h,i,j,hij => by
    have hx:=h x (by simp)
    have ih:=opW_out (w:=w) (fun y hy => h y (by simp [hy]))
    show opL x (opW w oneM) i j = _
    rw [opL_at]
    have z:∀ r,r < n → n ≤ j → (oneM:Mtx LP) r j = 0:=fun r hr hj => if_neg (by omega)
    split
    · by_cases e1:i + 1 = x.natAbs
      · have hj:n ≤ j:=by omega
        rw [if_pos e1,ih i j (.inr hj),ih (i + 1) j (.inr hj),z i (by omega) hj,z (i + 1) (by omega) hj,mul_zero,mul_zero,add_zero]
      · rw [if_neg e1]
        by_cases e2:i = x.natAbs
        · have hj:n ≤ j:=by omega
          rw [if_pos e2,ih (i - 1) j (.inr hj),z i (by omega) hj,z (i - 1) (by omega) hj]
        · rw [if_neg e2];exact ih i j hij
    · by_cases e1:i + 1 = x.natAbs
      · have hj:n ≤ j:=by omega
        rw [if_pos e1,ih (i + 1) j (.inr hj),z i (by omega) hj,z (i + 1) (by omega) hj]
      · rw [if_neg e1]
        by_cases e2:i = x.natAbs
        · have hj:n ≤ j:=by omega
          rw [if_pos e2,ih (i - 1) j (.inr hj),ih i j (.inr hj),z i (by omega) hj,z (i - 1) (by omega) hj,mul_zero,mul_zero,add_zero]
        · rw [if_neg e2];exact ih i j hij
theorem one_sh (s i j:Nat):(oneM:Mtx LP) (s + i) (s + j) = oneM i j:=by
  unfold oneM
  by_cases e:i = j
  · rw [if_pos e,if_pos (by omega)]
  · rw [if_neg e,if_neg (by omega)]
theorem opW_sh {s:Nat}:∀ {w:List Int},(∀ x ∈ w,x ≠ 0) → (∀ i j,opW (shW s w) (oneM:Mtx LP) (s + i) (s + j) = opW w oneM i j) ∧ ∀ i j,(i < s ∨ j < s) → opW (shW s w) (oneM:Mtx LP) i j = oneM i j
  | [],_ => ⟨fun i j => one_sh s i j,fun _ _ _ => rfl⟩
  | x :: w,h => by
    have hx:=h x (by simp)
    obtain ⟨h1,h2⟩:=opW_sh (s:=s) (w:=w) (fun y hy => h y (by simp [hy]))
    obtain ⟨y,hy⟩:∃ y:Int,(if x < 0 then x - (s:Int) else x + s) = y:=⟨_,rfl⟩
    have e0:y.natAbs = x.natAbs + s:=by rw [← hy];split <;> omega
    have ep:(0 < y) = (0 < x):=propext (by rw [← hy];split <;> omega)
    rw [shW_cons,hy]
    constructor
    · intro i j
      show opL y (opW (shW s w) oneM) (s + i) (s + j) = opL x (opW w oneM) i j
      rw [opL_at,opL_at]
      simp only [ep,e0]
      have c1:(s + i + 1 = x.natAbs + s) = (i + 1 = x.natAbs):=propext (by omega)
      have c2:(s + i = x.natAbs + s) = (i = x.natAbs):=propext (by omega)
      simp only [c1,c2]
      rw [h1 i j,show s + i + 1 = s + (i + 1) by omega,h1 (i + 1) j]
      by_cases e2:i = x.natAbs
      · rw [show s + i - 1 = s + (i - 1) by omega,h1 (i - 1) j]
      · simp only [if_neg e2]
    · intro i j hij
      show opL y (opW (shW s w) oneM) i j = oneM i j
      rw [opL_at]
      have z:∀ r,s ≤ r → j < s → (oneM:Mtx LP) r j = 0:=fun r hr hj => if_neg (by omega)
      by_cases e1:i + 1 = y.natAbs
      · have hj:j < s:=by omega
        simp only [if_pos e1]
        rw [h2 i j (.inr hj),h2 (i + 1) j (.inr hj),z i (by omega) hj,z (i + 1) (by omega) hj,mul_zero,mul_zero,add_zero]
        split <;> rfl
      · simp only [if_neg e1]
        by_cases e2:i = y.natAbs
        · have hj:j < s:=by omega
          simp only [if_pos e2]
          rw [h2 (i - 1) j (.inr hj),h2 i j (.inr hj),z (i - 1) (by omega) hj,z i (by omega) hj,mul_zero,mul_zero,add_zero]
          split <;> rfl
        · simp only [if_neg e2]
          rw [h2 i j hij]
          split <;> rfl
theorem okB_shW {m s:Nat} {w:List Int} (h:okB m w):okB (s + m) (shW s w):=fun x hx => by
  unfold shW at hx
  obtain ⟨y,hy,rfl⟩:=List.mem_map.1 hx
  have:=h y hy
  split <;> omega
noncomputable def iB (n:Nat) (w:List Int):Mtx LP:=fun i j => oneM i j + -(bu n w i j)
theorem iB_rows {n:Nat} {w:List Int} (hw:okB n w):∀ i,i < n → sumN n (iB n w i) = 0:=fun i hi => by
  show sumN n (fun j => oneM i j + -(bu n w i j)) = 0
  rw [sumN_add,sumN_neg,bu_rowSum hw i hi,one_rowSum hi,add_neg]
theorem iB_cols {n:Nat} {w:List Int} (hw:okB n w):∀ j,j < n → sumN n (fun l => tK l * iB n w l j) = 0:=fun j hj => tau_col hw hj
theorem adet_last (N:Nat) (w:List Int):adet (N + 1) w = detR (N + 1) (updR (iB (N + 1) w) N (oneM N)):=by
  have h:=det_border (N:=N) (iB (N + 1) w) (fun i => iB (N + 1) w i N) 1
  rw [CR.one_mul] at h
  refine Eq.trans ?_ (h.symm.trans (detR_congr fun i hi j hj => ?_))
  · rfl
  · by_cases e:i < N
    · rw [if_pos e,updR_ne _ _ (by omega)]
      by_cases e2:j < N
      · rw [if_pos e2]
      · rw [if_neg e2,show j = N by omega]
    · have e3:i = N:=by omega
      subst e3
      rw [if_neg e,updR_same]
      show _ = if i = j then (1:LP) else 0
      by_cases e4:j = i
      · rw [if_pos e4,if_pos e4.symm]
      · rw [if_neg e4,if_neg (Ne.symm e4)]
theorem adet_at {N:Nat} {w:List Int} (hw:okB (N + 1) w) {r:Nat} (hr:r < N + 1):tK N * detR (N + 1) (updR (iB (N + 1) w) r (oneM r)) = tK r * adet (N + 1) w:=by
  rw [det_move (iB (N + 1) w) tK (iB_cols hw) hr (show N < N + 1 by omega),det_place (iB (N + 1) w) (iB_rows hw) (show N < N + 1 by omega) hr (show N < N + 1 by omega),adet_last]
theorem tK_ne (k:Nat):tK k ≠ 0:=fun h => by
  have:=congrArg (fun x => LP.co x (k:Int)) h
  unfold tK at this
  rw [LP.co_term,if_pos rfl,LP.co_zero] at this
  cases this
theorem tK_add (a b:Nat):tK (a + b) = tK a * tK b:=by
  unfold tK
  rw [LP.term_mul]
  congr 1
theorem side_entry {n m s:Nat} (hs:s ≤ n) (hn:n ≤ s + m) {x y:List Int} (hx:okB n x) (hy:okB m y):∀ i,i < s + m → ∀ j,j < s + m → bu (s + m) (x ++ shW s y) i j = sumN (s + m) fun k => opW x oneM i k * opW (shW s y) oneM k j:=fun i hi j hj => by
  have hx2:okB (s + m) x:=fun z hz => ⟨(hx z hz).1,by have:=(hx z hz).2;omega⟩
  rw [bu_append (s + m) x (shW s y) i hi j hj]
  show sumN (s + m) (fun k => bu (s + m) x i k * bu (s + m) (shW s y) k j) = _
  exact sumN_congr fun k hk => by rw [bu_op hx2 i hi k hk,bu_op (okB_shW hy) k hk j hj]
theorem one_single {N i:Nat} (hi:i < N) (f:Nat → LP):sumN N (fun k => oneM i k * f k) = f i:=by
  rw [sumN_single (k:=i) hi (fun k _ hne => by rw [show (oneM:Mtx LP) i k = 0 from if_neg (Ne.symm hne),zero_mul]),show (oneM:Mtx LP) i i = 1 from if_pos rfl,CR.one_mul]
theorem one_singler {N j:Nat} (hj:j < N) (f:Nat → LP):sumN N (fun k => f k * oneM k j) = f j:=by
  rw [sumN_single (k:=j) hj (fun k _ hne => by rw [show (oneM:Mtx LP) k j = 0 from if_neg hne,mul_zero]),show (oneM:Mtx LP) j j = 1 from if_pos rfl,CR.mul_one]
theorem side_left {n m s:Nat} (hs:s ≤ n) (hn:n ≤ s + m) {x y:List Int} (hx:okB n x) (hy:okB m y) {i j:Nat} (hi:i < n) (hj:j < s):bu (s + m) (x ++ shW s y) i j = bu n x i j:=by
  rw [side_entry hs hn hx hy i (by omega) j (by omega),bu_op hx i hi j (by omega)]
  have h2:=(opW_sh (s:=s) (w:=y) (fun z hz => (hy z hz).1)).2
  rw [sumN_congr (g:=fun k => opW x oneM i k * oneM k j) (fun k _ => by rw [h2 k j (.inr hj)])]
  exact one_singler (by omega) _
theorem side_low {n m s:Nat} (hs:s ≤ n) (hn:n ≤ s + m) {x y:List Int} (hx:okB n x) (hy:okB m y) {i j:Nat} (hi:n ≤ i) (hi2:i < s + m) (hj:j < s + m):bu (s + m) (x ++ shW s y) i j = opW (shW s y) oneM i j:=by
  rw [side_entry hs hn hx hy i hi2 j hj]
  rw [sumN_congr (g:=fun k => oneM i k * opW (shW s y) oneM k j) (fun k _ => by rw [opW_out hx i k (.inl hi)])]
  exact one_single hi2 _
theorem adet_sum {n m:Nat} (h1:1 ≤ n) (k1:1 ≤ m) {x y:List Int} (hx:okB n x) (hy:okB m y):adet (n - 1 + m) (x ++ shW (n - 1) y) = adet n x * adet m y:=by
  obtain ⟨s,rfl⟩:∃ s,n = s + 1:=⟨n - 1,by omega⟩
  obtain ⟨p,rfl⟩:∃ p,m = p + 1:=⟨m - 1,by omega⟩
  rw [Nat.add_sub_cancel]
  have hw:okB (s + p + 1) (x ++ shW s y):=fun z hz => by
    rcases List.mem_append.1 hz with h | h
    · have:=hx z h;exact ⟨this.1,by omega⟩
    · exact okB_shW hy z h
  have e1:=adet_at (N:=s + p) hw (r:=s) (by omega)
  have e2:=adet_at (N:=p) hy (r:=0) (by omega)
  rw [show tK 0 = (1:LP) from rfl,CR.one_mul] at e2
  have e3:detR (s + p + 1) (updR (iB (s + p + 1) (x ++ shW s y)) s (oneM s)) = adet (s + 1) x * detR (p + 1) (updR (iB (p + 1) y) 0 (oneM 0)):=by
    rw [← detC_eq,show s + p + 1 = s + (p + 1) by omega]
    rw [det_block (b:=p + 1) (updR (iB (p + 1) y) 0 (oneM 0)) s _ (iB (s + 1) x) (fun i hi j hj => ?_) (fun i hi hi2 j hj => ?_) (fun i hi j hj => ?_),detC_eq,detC_eq]
    · rfl
    · rw [updR_ne _ _ (by omega)]
      show oneM i j + -(bu (s + (p + 1)) (x ++ shW s y) i j) = oneM i j + -(bu (s + 1) x i j)
      rw [side_left (by omega) (by omega) hx hy (by omega) hj]
    · by_cases e:i = s
      · subst e
        rw [updR_same]
        exact if_neg (by omega)
      · rw [updR_ne _ _ e]
        show oneM i j + -(bu (s + (p + 1)) (x ++ shW s y) i j) = 0
        rw [side_low (by omega) (by omega) hx hy (by omega) hi2 (by omega),(opW_sh (s:=s) (w:=y) (fun z hz => (hy z hz).1)).2 i j (.inr hj),add_neg]
    · by_cases e:i = 0
      · subst e
        have:=one_sh s 0 j
        rw [Nat.add_zero] at this
        rw [updR_same,← this]
        exact congrFun (updR_same _ s _) (s + j)
      · rw [updR_ne _ _ (show s + i ≠ s by omega),updR_ne _ _ e]
        show oneM (s + i) (s + j) + -(bu (s + (p + 1)) (x ++ shW s y) (s + i) (s + j)) = oneM i j + -(bu (p + 1) y i j)
        rw [side_low (by omega) (by omega) hx hy (by omega) (by omega) (by omega),(opW_sh (s:=s) (w:=y) (fun z hz => (hy z hz).1)).1 i j,one_sh,bu_op hy i hi j hj]
  rw [e3,tK_add,CR.mul_comm (adet (s + 1) x),CR.mul_assoc,← CR.mul_assoc (tK p),e2] at e1
  have e4:=lp_cancel (tK_ne s) e1
  rw [show s + (p + 1) = s + p + 1 by omega,← e4,CR.mul_comm]
theorem adet_split {n m:Nat} (h1:1 ≤ n) (k1:1 ≤ m) {x y:List Int} (hx:okB n x) (hy:okB m y):adet (n + m) (x ++ shW n y) = 0:=by
  obtain ⟨p,rfl⟩:∃ p,m = p + 1:=⟨m - 1,by omega⟩
  show detR (n + (p + 1) - 1) (iB (n + (p + 1)) (x ++ shW n y)) = 0
  rw [show n + (p + 1) - 1 = n + p by omega,← detC_eq]
  rw [det_block (b:=p) (fun i j => iB (n + (p + 1)) (x ++ shW n y) (n + i) (n + j)) n _ (iB n x) (fun i hi j hj => ?_) (fun i hi hi2 j hj => ?_) (fun i hi j hj => rfl),detC_eq,det_rows0 (iB n x) (by omega) (iB_rows hx),zero_mul]
  · show oneM i j + -(bu (n + (p + 1)) (x ++ shW n y) i j) = oneM i j + -(bu n x i j)
    rw [side_left (Nat.le_refl _) (by omega) hx hy hi hj]
  · show oneM i j + -(bu (n + (p + 1)) (x ++ shW n y) i j) = 0
    rw [side_low (Nat.le_refl _) (by omega) hx hy (by omega) (by omega) (by omega),(opW_sh (s:=n) (w:=y) (fun z hz => (hy z hz).1)).2 i j (.inr hj),add_neg]
end Go.Proofs.YtbedpgcbfbjgiaaGreatDoor
namespace Go.Proofs.YtbedpgcbfbjgiaaGreatDoor
set_option linter.unusedVariables false
set_option linter.unusedSimpArgs false
open CR

theorem cj_zero:LP.conj (0:LP) = 0:=LP.ext fun k => by rw [LP.co_conj,LP.co_zero,LP.co_zero]
end Go.Proofs.YtbedpgcbfbjgiaaGreatDoor
namespace Go.Proofs.YtbedpgcbfbjgiaaGreatDoor
set_option linter.unusedVariables false
set_option linter.unusedSimpArgs false
open CR

theorem CE.conj {x:LP} {E V:Nat} (h:CE x E V):CE (LP.conj x) E V:=
  ⟨fun k hk => by rw [LP.co_conj] at hk;have:=h.ex _ hk;omega,fun k => by rw [LP.co_conj];exact h.cf _⟩
theorem canon_zero':LP.canon (0:LP) = (0,[]):=by
  have:=LP.canon_of (lo:=0) (cs:=[]) (.inl ⟨rfl,rfl⟩)
  rwa [show LP.of 0 [] = (0:LP) from rfl] at this
theorem norm_un (x:LP) {u:LP} (h:UnT u):LP.normC (LP.canon (x * u)).2 = LP.normC (LP.canon x).2:=by
  obtain ⟨e,s,hs,rfl⟩:=h
  rw [← LP.of_one]
  exact LP.norm_unit x e s hs
theorem alex_form {x:LP} {V:Nat} (h:CE x 16 V) (hV:V ≤ 100000000):∃ y u,UnT u ∧ y = x * u ∧ LP.canon y = (0,LP.normC (LP.canon x).2) ∧ LP.Rt y ∧ LP.Rt (LP.conj y):=by
  by_cases hn:(LP.canon x).2 = []
  · have hx:x = 0:=by rw [← LP.of_canon x,hn];rfl
    refine ⟨0,1,UnT.one,by rw [hx,zero_mul],by rw [hn,canon_zero'];rfl,LP.N1.zero.rt (by omega) (by omega),?_⟩
    rw [cj_zero]
    exact LP.N1.zero.rt (by omega) (by omega)
  · have hc:=LP.canon_cano x
    have hs:LP.sgL (LP.canon x).2 = 1 ∨ LP.sgL (LP.canon x).2 = -1:=by unfold LP.sgL;split <;> simp
    have hu:UnT (LP.term (-(LP.canon x).1) (LP.sgL (LP.canon x).2)):=⟨_,_,hs,rfl⟩
    have hlo:(LP.canon x).1.natAbs ≤ 16:=by
      have h1:=hc.low hn
      rw [LP.of_canon] at h1
      exact h.ex _ h1
    have hce:CE (x * LP.term (-(LP.canon x).1) (LP.sgL (LP.canon x).2)) 32 V:=by
      have h2:=CE.mul h [(-(LP.canon x).1,LP.sgL (LP.canon x).2)] (E2:=16) (fun t ht => by simp at ht;rw [ht];simp;omega)
      have h3:LP.mk [(-(LP.canon x).1,LP.sgL (LP.canon x).2)] = LP.term (-(LP.canon x).1) (LP.sgL (LP.canon x).2):=rfl
      rw [h3,CR.mul_comm] at h2
      refine h2.mono (by omega) ?_
      show ((LP.sgL (LP.canon x).2).natAbs + 0) * V ≤ V
      rcases hs with e | e <;> rw [e] <;> simp
    refine ⟨_,_,hu,rfl,?_,hce.rt (by omega) hV,hce.conj.rt (by omega) hV⟩
    have h4:=LP.canon_unit hc hn (-(LP.canon x).1) _ hs
    rw [LP.of_canon] at h4
    rw [h4]
    congr 1
    omega
end Go.Proofs.YtbedpgcbfbjgiaaGreatDoor
