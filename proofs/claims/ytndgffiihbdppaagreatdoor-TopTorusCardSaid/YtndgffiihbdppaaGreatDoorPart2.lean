/- Several texts in one. -/
import Derived.Test.YtndgffiihbdppaaGreatDoorPart1
import Derived.Test.YtndgffiihbdppaaGreatDoorBase1
import Derived.Deep.DeepCutAuto
import Derived.Shelf.Bits.Mul64
import Derived.Ground.Names2Prog
import Derived.Test.YtndgffiihbdppaaGreatDoorProg
namespace Go.Proofs.YtndgffiihbdppaaGreatDoor
set_option linter.unusedVariables false
set_option linter.unusedSimpArgs false
namespace LP

def expo (w:List Int):Int:=wsum Int.sign w
theorem sign_le (x:Int):(Int.sign x).natAbs ≤ 1:=by
  rcases Int.lt_trichotomy x 0 with h | h | h
  · rw [Int.sign_eq_neg_one_of_neg h];decide
  · subst h;decide
  · rw [Int.sign_eq_one_of_pos h];decide
theorem expo_nil:expo [] = 0:=rfl
theorem expo_cons (x:Int) (w:List Int):expo (x :: w) = Int.sign x + expo w:=by simp [expo,wsum]
theorem expo_append (u v:List Int):expo (u ++ v) = expo u + expo v:=wsum_append _ u v
theorem expo_le:∀ w:List Int,(expo w).natAbs ≤ w.length
  | [] => by decide
  | x :: w => by
    rw [expo_cons,List.length_cons]
    have:=sign_le x
    have:=expo_le w
    omega

def dx (i x:Int):LP:=if x = i then 1 else if x = -i then term (-1) (-1) else 0
def foxT (i:Int):List Int → LP
  | [] => 0
  | x :: w => dx i x + term (Int.sign x) 1 * foxT i w
theorem term_mul (e f c d:Int):term e c * term f d = term (e + f) (c * d):=ext fun k => by
  rw [co_term_mul,co_term,co_term]
  by_cases h:f = k - e
  · rw [if_pos h,if_pos (by omega)]
  · rw [if_neg h,if_neg (by omega),Int.mul_zero]
theorem Sm.term (e c:Int) {l h:Int} {B:Nat} (h1:l ≤ e) (h2:e ≤ h) (h3:c.natAbs ≤ B):Sm (term e c) l h B:=
  ⟨fun k hk => by
    rw [co_term] at hk
    by_cases he:e = k
    · omega
    · rw [if_neg he] at hk;exact absurd rfl hk,
  fun k => by
    rw [co_term]
    split
    · exact h3
    · exact Nat.zero_le _⟩
theorem Sm.zero {l h:Int} {B:Nat}:Sm 0 l h B:=⟨fun k hk => absurd (co_zero k) hk,fun k => by rw [co_zero];exact Nat.zero_le _⟩
def less:LP:=term 1 1 + -1
def part (w:List Int):Nat → LP
  | 0 => 0
  | k + 1 => part w k + foxT ((k:Int) + 1) w * less
end LP
end Go.Proofs.YtndgffiihbdppaaGreatDoor
namespace Go.Proofs.YtndgffiihbdppaaGreatDoor
set_option linter.unusedVariables false
set_option linter.unusedSimpArgs false
namespace LP

def sumA:List Tm → Nat
  | [] => 0
  | p :: l => p.2.natAbs + sumA l
theorem sumA_append:∀ a b:List Tm,sumA (a ++ b) = sumA a + sumA b
  | [],b => by simp [sumA]
  | p :: a,b => by
    show p.2.natAbs + sumA (a ++ b) = p.2.natAbs + sumA a + sumA b
    rw [sumA_append a b,Nat.add_assoc]
theorem sumA_scale (e c:Int):∀ l:List Tm,sumA (scaleT e c l) = c.natAbs * sumA l
  | [] => rfl
  | p :: l => by
    show (c * p.2).natAbs + sumA (scaleT e c l) = c.natAbs * (p.2.natAbs + sumA l)
    rw [sumA_scale e c l,Nat.mul_add,Int.natAbs_mul]
theorem sumA_mul (b:List Tm):∀ a:List Tm,sumA (mulT a b) = sumA a * sumA b
  | [] => by
    show 0 = 0 * sumA b
    rw [Nat.zero_mul]
  | p :: a => by
    rw [mulT_cons,sumA_append,sumA_scale,sumA_mul b a]
    show _ = (p.2.natAbs + sumA a) * sumA b
    rw [Nat.add_mul]
theorem coefT_sumA (k:Int):∀ l:List Tm,(coefT l k).natAbs ≤ sumA l
  | [] => Nat.le_refl _
  | p :: l => by
    have h:=coefT_sumA k l
    show ((if p.1 = k then p.2 else 0) + coefT l k).natAbs ≤ p.2.natAbs + sumA l
    split <;> omega

def N1 (x:LP) (E V:Nat):Prop:=∃ l:List Tm,mk l = x ∧ (∀ p ∈ l,p.1.natAbs ≤ E) ∧ sumA l ≤ V
theorem N1.mono {x:LP} {E V E' V':Nat} (h:N1 x E V) (h1:E ≤ E') (h2:V ≤ V'):N1 x E' V':=by
  obtain ⟨l,e,hk,hv⟩:=h
  exact ⟨l,e,fun p hp => Nat.le_trans (hk p hp) h1,Nat.le_trans hv h2⟩
theorem N1.zero:N1 0 0 0:=⟨[],rfl,fun p hp => by simp at hp,Nat.le_refl _⟩
theorem N1.term (e c:Int):N1 (LP.term e c) e.natAbs c.natAbs:=⟨[(e,c)],rfl,fun p hp => by simp at hp;subst hp;exact Nat.le_refl _,by simp [sumA]⟩
theorem N1.one:N1 1 0 1:=N1.term 0 1
theorem N1.add {x y:LP} {E V V':Nat} (hx:N1 x E V) (hy:N1 y E V'):N1 (x + y) E (V + V'):=by
  obtain ⟨a,rfl,h1,h2⟩:=hx
  obtain ⟨b,rfl,h3,h4⟩:=hy
  refine ⟨a ++ b,rfl,fun p hp => ?_,by rw [sumA_append];omega⟩
  rcases List.mem_append.1 hp with h | h
  · exact h1 p h
  · exact h3 p h
theorem N1.neg {x:LP} {E V:Nat} (hx:N1 x E V):N1 (-x) E V:=by
  obtain ⟨a,rfl,h1,h2⟩:=hx
  refine ⟨scaleT 0 (-1) a,rfl,fun p hp => ?_,by rw [sumA_scale,show (-1:Int).natAbs = 1 from rfl];omega⟩
  obtain ⟨q,hq,rfl⟩:=List.mem_map.1 hp
  have:=h1 q hq
  show (0 + q.1).natAbs ≤ E
  rw [Int.zero_add];exact this
theorem N1.mul {x y:LP} {E V E' V':Nat} (hx:N1 x E V) (hy:N1 y E' V'):N1 (x * y) (E + E') (V * V'):=by
  obtain ⟨a,rfl,h1,h2⟩:=hx
  obtain ⟨b,rfl,h3,h4⟩:=hy
  refine ⟨mulT a b,rfl,fun p hp => ?_,by rw [sumA_mul];exact Nat.mul_le_mul h2 h4⟩
  obtain ⟨q,hq,hp⟩:=List.mem_flatMap.1 hp
  obtain ⟨r,hr,rfl⟩:=List.mem_map.1 hp
  have:=h1 q hq
  have:=h3 r hr
  show (q.1 + r.1).natAbs ≤ E + E'
  omega
theorem N1.co {x:LP} {E V:Nat} (h:N1 x E V) (k:Int):(LP.co x k).natAbs ≤ V:=by
  obtain ⟨l,rfl,_,hv⟩:=h
  exact Nat.le_trans (coefT_sumA k l) hv
theorem N1.supp {x:LP} {E V:Nat} (h:N1 x E V) {k:Int} (hk:LP.co x k ≠ 0):k.natAbs ≤ E:=by
  obtain ⟨l,rfl,h1,_⟩:=h
  by_cases hm:∀ p ∈ l,p.1 ≠ k
  · exact absurd (sumT_out k l hm) hk
  · obtain ⟨p,hp⟩:=Classical.not_forall.1 hm
    obtain ⟨hp,e⟩:=Classical.not_imp.1 hp
    have:=h1 p hp
    rw [Classical.not_not.1 e] at this
    exact this
theorem N1.sm {x:LP} {E V:Nat} (h:N1 x E V):Sm x (-(E:Int)) E V:=⟨fun k hk => by have:=h.supp hk;omega,h.co⟩
theorem N1.rt {x:LP} {E V:Nat} (h:N1 x E V) (h1:E ≤ 99) (h2:V ≤ 100000000):Rt x:=h.sm.pfl (by omega) (by omega) (by omega) h2
theorem N1.sumN {f:Nat → LP} {E V:Nat}:∀ {n:Nat},(∀ i,i < n → N1 (f i) E V) → N1 (CR.sumN n f) E (n * V)
  | 0,_ => N1.zero.mono (Nat.zero_le _) (Nat.zero_le _)
  | n + 1,h => by
    rw [CR.sumN_succ,Nat.succ_mul]
    exact (N1.sumN fun i hi => h i (by omega)).add (h n (by omega))
theorem N1.sgR (j:Nat):N1 (CR.sgR LP j) 0 1:=by
  unfold CR.sgR
  split
  · exact N1.one
  · exact N1.one.neg
def fctP:Nat → Nat
  | 0 => 1
  | n + 1 => (n + 1) * fctP n
theorem N1.detR {E V:Nat}:∀ {n:Nat} {M:Mtx LP},(∀ i,i < n → ∀ j,j < n → N1 (M i j) E V) → N1 (Proofs.YtndgffiihbdppaaGreatDoor.detR n M) (n * E) (fctP n * V ^ n)
  | 0,M,_ => by
    show N1 1 (0 * E) (1 * V ^ 0)
    rw [Nat.zero_mul,Nat.pow_zero]
    exact N1.one
  | n + 1,M,h => by
    have h1:∀ j,j < n + 1 → N1 (CR.sgR LP j * (M 0 j * Proofs.YtndgffiihbdppaaGreatDoor.detR n fun a b => M (a + 1) (CR.skip j b))) ((n + 1) * E) (V * (fctP n * V ^ n)):=fun j hj => by
      have h2:=(N1.sgR j).mul ((h 0 (by omega) j hj).mul (N1.detR (M:=fun a b => M (a + 1) (CR.skip j b)) fun i hi k hk => h (i + 1) (by omega) _ (skip_lt hk)))
      refine h2.mono ?_ ?_
      · rw [Nat.succ_mul];omega
      · rw [Nat.one_mul];exact Nat.le_refl _
    have h3:=N1.sumN h1
    refine N1.mono (x:=CR.sumN (n + 1) _) h3 (Nat.le_refl _) (Nat.le_of_eq ?_)
    show (n + 1) * (V * (fctP n * V ^ n)) = (n + 1) * fctP n * V ^ (n + 1)
    rw [Nat.pow_succ]
    ac_rfl
end LP
end Go.Proofs.YtndgffiihbdppaaGreatDoor
namespace Go.Proofs.YtndgffiihbdppaaGreatDoor
set_option linter.unusedVariables false
set_option linter.unusedSimpArgs false
set_option linter.unusedSectionVars false
open CR

section
variable {R:Type} [CR R]
theorem sumN_two {f:Nat → R} {n a b:Nat} (ha:a < n) (hb:b < n) (hab:a ≠ b) (h:∀ i,i < n → i ≠ a → i ≠ b → f i = 0):sumN n f = f a + f b:=by
  have e:sumN n f = sumN n (fun i => (if i = a then f a else 0) + (if i = b then f b else 0)):=sumN_congr fun i hi => by
    by_cases h1:i = a
    · subst h1;rw [if_pos rfl,if_neg hab,add_zero]
    · by_cases h2:i = b
      · subst h2;rw [if_pos rfl,if_neg h1,zero_add]
      · rw [if_neg h1,if_neg h2,h i hi h1 h2,add_zero]
  rw [e,sumN_add,sumN_single (k:=a) ha (fun i _ hne => if_neg hne),sumN_single (k:=b) hb (fun i _ hne => if_neg hne),if_pos rfl,if_pos rfl]
theorem mulM_assoc (n:Nat) (A B C:Mtx R):mulM n (mulM n A B) C = mulM n A (mulM n B C):=by
  funext i j
  show sumN n (fun k => (sumN n fun l => A i l * B l k) * C k j) = sumN n fun l => A i l * sumN n fun k => B l k * C k j
  have e1:∀ k,(sumN n fun l => A i l * B l k) * C k j = sumN n fun l => A i l * (B l k * C k j):=fun k => by
    rw [mul_comm,← sumN_mul]
    exact sumN_congr fun l _ => by ac_rfl
  rw [sumN_congr fun k _ => e1 k,sumN_swap]
  exact sumN_congr fun l _ => sumN_mul _ _ _
def EqM (n:Nat) (A B:Mtx R):Prop:=∀ i,i < n → ∀ j,j < n → A i j = B i j
theorem EqM.refl (n:Nat) (A:Mtx R):EqM n A A:=fun _ _ _ _ => rfl
theorem EqM.symm {n:Nat} {A B:Mtx R} (h:EqM n A B):EqM n B A:=fun i hi j hj => (h i hi j hj).symm
theorem EqM.trans {n:Nat} {A B C:Mtx R} (h:EqM n A B) (k:EqM n B C):EqM n A C:=fun i hi j hj => (h i hi j hj).trans (k i hi j hj)
theorem EqM.mul {n:Nat} {A A' B B':Mtx R} (h:EqM n A A') (k:EqM n B B'):EqM n (mulM n A B) (mulM n A' B'):=fun i hi j hj =>
  sumN_congr fun l hl => by rw [h i hi l hl,k l hl j hj]
theorem EqM.one_mul (n:Nat) (A:Mtx R):EqM n (mulM n oneM A) A:=fun i hi j hj => by
  show sumN n (fun k => oneM i k * A k j) = A i j
  rw [sumN_single (k:=i) hi (fun k _ hne => by rw [show (oneM:Mtx R) i k = 0 from if_neg (Ne.symm hne),zero_mul]),show (oneM:Mtx R) i i = 1 from if_pos rfl,CR.one_mul]
theorem EqM.mul_one (n:Nat) (A:Mtx R):EqM n (mulM n A oneM) A:=fun i hi j hj => by
  show sumN n (fun k => A i k * oneM k j) = A i j
  rw [sumN_single (k:=j) hj (fun k _ hne => by rw [show (oneM:Mtx R) k j = 0 from if_neg hne,mul_zero]),show (oneM:Mtx R) j j = 1 from if_pos rfl,CR.mul_one]

def opP (t:R) (a:Nat) (A:Mtx R):Mtx R:=fun r c => if r + 1 = a then (1 + -t) * A r c + t * A (r + 1) c else if r = a then A (r - 1) c else A r c
def opN (t:R) (a:Nat) (A:Mtx R):Mtx R:=fun r c => if r + 1 = a then A (r + 1) c else if r = a then t * A (r - 1) c + (1 + -t) * A r c else A r c
theorem EqM.opP {n:Nat} {A B:Mtx R} (t:R) {a:Nat} (ha:a < n) (h:EqM n A B):EqM n (Proofs.YtndgffiihbdppaaGreatDoor.opP t a A) (Proofs.YtndgffiihbdppaaGreatDoor.opP t a B):=fun r hr c hc => by
  unfold Proofs.YtndgffiihbdppaaGreatDoor.opP
  by_cases h1:r + 1 = a
  · rw [if_pos h1,if_pos h1,h r hr c hc,h (r + 1) (by omega) c hc]
  · rw [if_neg h1,if_neg h1]
    split
    · exact h _ (by omega) c hc
    · exact h r hr c hc
theorem EqM.opN {n:Nat} {A B:Mtx R} (t:R) {a:Nat} (ha:a < n) (h:EqM n A B):EqM n (Proofs.YtndgffiihbdppaaGreatDoor.opN t a A) (Proofs.YtndgffiihbdppaaGreatDoor.opN t a B):=fun r hr c hc => by
  unfold Proofs.YtndgffiihbdppaaGreatDoor.opN
  by_cases h1:r + 1 = a
  · rw [if_pos h1,if_pos h1,h (r + 1) (by omega) c hc]
  · rw [if_neg h1,if_neg h1]
    split
    · rw [h r hr c hc,h _ (by omega) c hc]
    · exact h r hr c hc
end

def tT:LP:=LP.term 1 1
def tI:LP:=LP.term (-1) 1
def bl (x:Int):Mtx LP:=fun r c =>
  if r + 1 = x.natAbs then (if 0 < x then (if c = r then 1 + -tT else if c = r + 1 then tT else 0) else (if c = r + 1 then 1 else 0))
  else if r = x.natAbs then (if 0 < x then (if c + 1 = r then 1 else 0) else (if c + 1 = r then tI else if c = r then 1 + -tI else 0))
  else if r = c then 1 else 0
def bu (n:Nat):List Int → Mtx LP
  | [] => oneM
  | x :: w => mulM n (bl x) (bu n w)
def opL (x:Int) (A:Mtx LP):Mtx LP:=if 0 < x then opP tT x.natAbs A else opN tI x.natAbs A
theorem bl_mul {n:Nat} {x:Int} (h1:x ≠ 0) (h2:x.natAbs < n) (A:Mtx LP):EqM n (mulM n (bl x) A) (opL x A):=fun r hr c hc => by
  show sumN n (fun k => bl x r k * A k c) = _
  obtain ⟨a,ha⟩:∃ a,x.natAbs = a:=⟨_,rfl⟩
  have ha1:1 ≤ a:=by omega
  unfold opL bl
  rw [ha] at h2 ⊢
  by_cases hx:0 < x
  · simp only [if_pos hx]
    unfold opP
    by_cases h3:r + 1 = a
    · simp only [if_pos h3]
      rw [sumN_two (a:=r) (b:=r + 1) hr (by omega) (by omega) (fun i _ h4 h5 => by rw [if_neg h4,if_neg h5,zero_mul]),if_pos rfl,if_neg (by omega),if_pos rfl]
    · simp only [if_neg h3]
      by_cases h4:r = a
      · simp only [if_pos h4]
        rw [sumN_single (k:=r - 1) (by omega) (fun i _ h5 => by rw [if_neg (by omega),zero_mul]),if_pos (by omega),CR.one_mul]
      · simp only [if_neg h4]
        rw [sumN_single (k:=r) hr (fun i _ h5 => by rw [if_neg (fun e => h5 e.symm),zero_mul]),if_pos rfl,CR.one_mul]
  · simp only [if_neg hx]
    unfold opN
    by_cases h3:r + 1 = a
    · simp only [if_pos h3]
      rw [sumN_single (k:=r + 1) (by omega) (fun i _ h5 => by rw [if_neg h5,zero_mul]),if_pos rfl,CR.one_mul]
    · simp only [if_neg h3]
      by_cases h4:r = a
      · simp only [if_pos h4]
        rw [sumN_two (a:=r - 1) (b:=r) (by omega) hr (by omega) (fun i _ h5 h6 => by rw [if_neg (by omega),if_neg h6,zero_mul]),if_pos (by omega),if_neg (by omega),if_pos rfl]
      · simp only [if_neg h4]
        rw [sumN_single (k:=r) hr (fun i _ h5 => by rw [if_neg (fun e => h5 e.symm),zero_mul]),if_pos rfl,CR.one_mul]
theorem bu_append (n:Nat):∀ u v:List Int,EqM n (bu n (u ++ v)) (mulM n (bu n u) (bu n v))
  | [],v => (EqM.one_mul n _).symm
  | x :: u,v => by
    show EqM n (mulM n (bl x) (bu n (u ++ v))) (mulM n (mulM n (bl x) (bu n u)) (bu n v))
    rw [mulM_assoc]
    exact (EqM.refl n _).mul (bu_append n u v)
def okB (n:Nat) (w:List Int):Prop:=∀ x ∈ w,x ≠ 0 ∧ x.natAbs < n
theorem EqM.opL {n:Nat} {A B:Mtx LP} {x:Int} (hx:x.natAbs < n) (h:EqM n A B):EqM n (Proofs.YtndgffiihbdppaaGreatDoor.opL x A) (Proofs.YtndgffiihbdppaaGreatDoor.opL x B):=by
  unfold Proofs.YtndgffiihbdppaaGreatDoor.opL
  split
  · exact h.opP _ hx
  · exact h.opN _ hx
def opW:List Int → Mtx LP → Mtx LP
  | [],A => A
  | x :: w,A => opL x (opW w A)
theorem bu_op {n:Nat}:∀ {w:List Int},okB n w → EqM n (bu n w) (opW w oneM)
  | [],_ => EqM.refl _ _
  | x :: w,h => (bl_mul (h x (by simp)).1 (h x (by simp)).2 _).trans ((bu_op fun y hy => h y (by simp [hy])).opL (h x (by simp)).2)
def RelB (a b:List Int):Prop:=∀ A:Mtx LP,opW a A = opW b A
theorem RelB.symm {a b:List Int} (h:RelB a b):RelB b a:=fun A => (h A).symm
theorem opW_append:∀ (u v:List Int) (A:Mtx LP),opW (u ++ v) A = opW u (opW v A)
  | [],_,_ => rfl
  | x :: u,v,A => by
    show opL x (opW (u ++ v) A) = opL x (opW u (opW v A))
    rw [opW_append u v A]
end Go.Proofs.YtndgffiihbdppaaGreatDoor
namespace Go.Proofs.YtndgffiihbdppaaGreatDoor
set_option linter.unusedVariables false
set_option linter.unusedSimpArgs false
open Go.RowKit
def sumK (f:Nat → Nat):Nat → Nat
  | 0 => 0
  | n + 1 => sumK f n + f n
theorem sumK_le {f g:Nat → Nat}:∀ {n:Nat},(∀ i,i < n → f i ≤ g i) → sumK f n ≤ sumK g n
  | 0,_ => Nat.le_refl _
  | n + 1,h => Nat.add_le_add (sumK_le fun i hi => h i (by omega)) (h n (by omega))
theorem sumK_mul (c:Nat) (f:Nat → Nat):∀ n,sumK (fun i => c * f i) n = c * sumK f n
  | 0 => rfl
  | n + 1 => by
    show sumK (fun i => c * f i) n + c * f n = c * (sumK f n + f n)
    rw [sumK_mul c f n,Nat.mul_add]
theorem sumK_mulr (c:Nat) (f:Nat → Nat) (n:Nat):sumK (fun i => f i * c) n = sumK f n * c:=by
  rw [Nat.mul_comm,← sumK_mul]
  congr 1
  funext i
  exact Nat.mul_comm _ _
theorem sumK_add (f g:Nat → Nat):∀ n,sumK (fun i => f i + g i) n = sumK f n + sumK g n
  | 0 => rfl
  | n + 1 => by
    show sumK (fun i => f i + g i) n + (f n + g n) = sumK f n + f n + (sumK g n + g n)
    rw [sumK_add f g n];omega
theorem sumK_zero:∀ n,sumK (fun _ => 0) n = 0
  | 0 => rfl
  | n + 1 => sumK_zero n
theorem sumK_swap (f:Nat → Nat → Nat) (m:Nat):∀ n,sumK (fun i => sumK (fun j => f i j) m) n = sumK (fun j => sumK (fun i => f i j) n) m
  | 0 => by
    show 0 = sumK (fun _ => 0) m
    rw [sumK_zero]
  | n + 1 => by
    show sumK (fun i => sumK (fun j => f i j) m) n + sumK (fun j => f n j) m = sumK (fun j => sumK (fun i => f i j) n + f n j) m
    rw [sumK_swap f m n,sumK_add]
theorem sumK_one {f:Nat → Nat}:∀ {n i:Nat},i < n → f i ≤ sumK f n
  | n + 1,i,h => by
    show f i ≤ sumK f n + f n
    by_cases e:i = n
    · subst e;omega
    · have:=sumK_one (f:=f) (n:=n) (i:=i) (by omega);omega
theorem sumK_mono_ {f:Nat → Nat}:∀ {n m:Nat},m ≤ n → sumK f m ≤ sumK f n
  | 0, m, h => by obtain rfl : m = 0 := by omega
                  exact Nat.le_refl _
  | n + 1,m,h => by
    by_cases e:m = n + 1
    · subst e;exact Nat.le_refl _
    · exact Nat.le_trans (sumK_mono_ (show m ≤ n by omega)) (Nat.le_add_right _ _)
theorem LP.N1.sumK {f:Nat → LP} {g:Nat → Nat} {E:Nat}:∀ {n:Nat},(∀ i,i < n → LP.N1 (f i) E (g i)) → LP.N1 (CR.sumN n f) E (Proofs.YtndgffiihbdppaaGreatDoor.sumK g n)
  | 0,_ => LP.N1.zero.mono (Nat.zero_le _) (Nat.zero_le _)
  | n + 1,h => by
    rw [CR.sumN_succ]
    exact (LP.N1.sumK fun i hi => h i (by omega)).add (h n (by omega))
def RN (n:Nat) (A:Mtx LP) (E V:Nat):Prop:=∃ v:Nat → Nat → Nat,(∀ i,i < n → ∀ j,j < n → LP.N1 (A i j) E (v i j)) ∧ ∀ i,i < n → sumK (v i) n ≤ V
theorem RN.entry {n E V:Nat} {A:Mtx LP} (h:RN n A E V) {i j:Nat} (hi:i < n) (hj:j < n):LP.N1 (A i j) E V:=by
  obtain ⟨v,h1,h2⟩:=h
  exact (h1 i hi j hj).mono (Nat.le_refl _) (Nat.le_trans (sumK_one hj) (h2 i hi))
theorem RN.part {n E V E' V':Nat} {A B:Mtx LP} (hA:RN n A E V) (hB:RN n B E' V') {i j m:Nat} (hi:i < n) (hj:j < n) (hm:m ≤ n):LP.N1 (CR.sumN m fun k => A i k * B k j) (E + E') (V * V'):=by
  obtain ⟨v,h1,h2⟩:=hA
  have h3:=LP.N1.sumK (n:=m) (f:=fun k => A i k * B k j) (g:=fun k => v i k * V') (E:=E + E') (fun k hk => (h1 i hi k (by omega)).mul (hB.entry (by omega) hj))
  refine h3.mono (Nat.le_refl _) ?_
  rw [sumK_mulr]
  refine Nat.mul_le_mul_right _ (Nat.le_trans ?_ (h2 i hi))
  exact sumK_mono_ hm
theorem RN.mul {n E V E' V':Nat} {A B:Mtx LP} (hA:RN n A E V) (hB:RN n B E' V'):RN n (mulM n A B) (E + E') (V * V'):=by
  obtain ⟨v,h1,h2⟩:=hA
  obtain ⟨u,h3,h4⟩:=hB
  refine ⟨fun i j => sumK (fun k => v i k * u k j) n,fun i hi j hj => LP.N1.sumK fun k hk => (h1 i hi k hk).mul (h3 k hk j hj),fun i hi => ?_⟩
  show sumK (fun j => sumK (fun k => v i k * u k j) n) n ≤ V * V'
  rw [sumK_swap]
  have e:sumK (fun k => sumK (fun j => v i k * u k j) n) n ≤ sumK (fun k => v i k * V') n:=sumK_le fun k hk => by
    rw [sumK_mul]
    exact Nat.mul_le_mul_left _ (h4 k hk)
  refine Nat.le_trans e ?_
  rw [sumK_mulr]
  exact Nat.mul_le_mul_right _ (h2 i hi)
theorem RN.congr {n E V:Nat} {A B:Mtx LP} (h:RN n A E V) (e:EqM n A B):RN n B E V:=by
  obtain ⟨v,h1,h2⟩:=h
  exact ⟨v,fun i hi j hj => by rw [← e i hi j hj];exact h1 i hi j hj,h2⟩
theorem RN.mono {n E V E' V':Nat} {A:Mtx LP} (h:RN n A E V) (h1:E ≤ E') (h2:V ≤ V'):RN n A E' V':=by
  obtain ⟨v,h3,h4⟩:=h
  exact ⟨v,fun i hi j hj => (h3 i hi j hj).mono h1 (Nat.le_refl _),fun i hi => Nat.le_trans (h4 i hi) h2⟩
theorem oneM_rn (n:Nat):RN n (oneM:Mtx LP) 0 1:=by
  refine ⟨fun i j => if j = i then 1 else 0,fun i _ j _ => ?_,fun i hi => ?_⟩
  · show LP.N1 (if i = j then 1 else 0) 0 (if j = i then 1 else 0)
    by_cases h:i = j
    · rw [if_pos h,if_pos h.symm];exact LP.N1.one
    · rw [if_neg h,if_neg (fun e => h e.symm)];exact LP.N1.zero
  · have h:∀ m,sumK (fun j => if j = i then 1 else 0) m = if i < m then 1 else 0:=fun m => by
      induction m with
      | zero => rfl
      | succ m ih =>
        show sumK _ m + (if m = i then 1 else 0) = _
        rw [ih]
        split <;> split <;> split <;> omega
    rw [h,if_pos hi]
    exact Nat.le_refl _
theorem bl_rn (n:Nat) (x:Int):RN n (bl x) 1 3:=by
  refine ⟨fun i j => if i + 1 = x.natAbs then (if j = i then 2 else if j = i + 1 then 1 else 0) else if i = x.natAbs then (if j + 1 = i then 1 else if j = i then 2 else 0) else if j = i then 1 else 0,fun i _ j _ => ?_,fun i hi => ?_⟩
  · have h1:LP.N1 (1 + -tT) 1 2:=(LP.N1.one.mono (Nat.zero_le _) (Nat.le_refl _)).add (LP.N1.term 1 1).neg
    have h2:LP.N1 (1 + -tI) 1 2:=(LP.N1.one.mono (Nat.zero_le _) (Nat.le_refl _)).add (LP.N1.term (-1) 1).neg
    have h3:LP.N1 (1:LP) 1 1:=LP.N1.one.mono (Nat.zero_le _) (Nat.le_refl _)
    have h4:LP.N1 (0:LP) 1 0:=LP.N1.zero.mono (Nat.zero_le _) (Nat.le_refl _)
    have h5:LP.N1 tT 1 1:=LP.N1.term 1 1
    have h6:LP.N1 tI 1 1:=LP.N1.term (-1) 1
    unfold bl
    by_cases a1:i + 1 = x.natAbs
    · simp only [if_pos a1]
      by_cases a2:0 < x
      · simp only [if_pos a2]
        by_cases a3:j = i
        · simp only [if_pos a3];exact h1
        · simp only [if_neg a3]
          by_cases a4:j = i + 1
          · simp only [if_pos a4];exact h5
          · simp only [if_neg a4];exact h4
      · simp only [if_neg a2]
        by_cases a4:j = i + 1
        · simp only [if_pos a4,if_neg (show ¬ j = i by omega)];exact h3
        · simp only [if_neg a4];exact h4.mono (Nat.le_refl _) (Nat.zero_le _)
    · simp only [if_neg a1]
      by_cases b1:i = x.natAbs
      · simp only [if_pos b1]
        by_cases a2:0 < x
        · simp only [if_pos a2]
          by_cases a3:j + 1 = i
          · simp only [if_pos a3];exact h3
          · simp only [if_neg a3];exact h4.mono (Nat.le_refl _) (Nat.zero_le _)
        · simp only [if_neg a2]
          by_cases a3:j + 1 = i
          · simp only [if_pos a3];exact h6
          · simp only [if_neg a3]
            by_cases a4:j = i
            · simp only [if_pos a4];exact h2
            · simp only [if_neg a4];exact h4
      · simp only [if_neg b1]
        by_cases a4:i = j
        · simp only [if_pos a4,if_pos a4.symm];exact h3
        · simp only [if_neg a4,if_neg (show ¬ j = i from fun e => a4 e.symm)];exact h4
  · have hone:∀ (a v:Nat) m,sumK (fun j => if j = a then v else 0) m = if a < m then v else 0:=fun a v m => by
      induction m with
      | zero => rfl
      | succ m ih =>
        show sumK _ m + (if m = a then v else 0) = _
        rw [ih]
        split <;> split <;> split <;> omega
    show sumK (fun j => if i + 1 = x.natAbs then (if j = i then 2 else if j = i + 1 then 1 else 0) else if i = x.natAbs then (if j + 1 = i then 1 else if j = i then 2 else 0) else if j = i then 1 else 0) n ≤ 3
    have hle:sumK (fun j => if i + 1 = x.natAbs then (if j = i then 2 else if j = i + 1 then 1 else 0) else if i = x.natAbs then (if j + 1 = i then 1 else if j = i then 2 else 0) else if j = i then 1 else 0) n ≤ sumK (fun j => (if j = i then 2 else 0) + ((if i + 1 = x.natAbs then (if j = i + 1 then 1 else 0) else (if j = i - 1 then 1 else 0)))) n:=sumK_le fun j _ => by
      by_cases a1:i + 1 = x.natAbs
      · simp only [if_pos a1];split <;> split <;> omega
      · simp only [if_neg a1]
        by_cases b1:i = x.natAbs
        · simp only [if_pos b1];split <;> (try split) <;> split <;> omega
        · simp only [if_neg b1];split <;> split <;> omega
    refine Nat.le_trans hle ?_
    rw [sumK_add,hone]
    by_cases a1:i + 1 = x.natAbs
    · simp only [if_pos a1];rw [hone];split <;> split <;> omega
    · simp only [if_neg a1];rw [hone];split <;> split <;> omega
theorem bu_rn {n:Nat}:∀ w:List Int,RN n (bu n w) w.length (3 ^ w.length)
  | [] => oneM_rn n
  | x :: w => by
    have h:=(bl_rn n x).mul (bu_rn w)
    exact h.mono (by rw [List.length_cons];omega) (by rw [List.length_cons,Nat.pow_succ,Nat.mul_comm];exact Nat.le_refl _)
theorem pow3 {k:Nat} (h:k ≤ 16):3 ^ k ≤ 43046721:=by
  calc 3 ^ k ≤ 3 ^ 16:=Nat.pow_le_pow_right (by omega) h
    _ = 43046721:=by decide
end Go.Proofs.YtndgffiihbdppaaGreatDoor
namespace Go.Proofs.YtndgffiihbdppaaGreatDoor
set_option linter.unusedVariables false
set_option linter.unusedSimpArgs false
open Go.RowKit

abbrev Po:=Int × List Int
structure SPo (w:World) (A:Option Addr) (n c:Nat) (ps:List Po):Prop where
  len:ps.length = n
  small:n ≤ 17592186044416
  nil:A = none → n = 0 ∧ c = 0
  cap:n ≤ c
  mem:0 < n → ∃ ad,A = some ad ∧ ad.block < w.heap.size ∧ ∀ j,j < n → ∃ B m d,w.cell? (ad.add (j * 2)) = some (.int .i64 (ps.getD j (0,[])).1) ∧ w.cell? ⟨(ad.add (j * 2)).block,(ad.add (j * 2)).off + 1,none⟩ = some (.slice B m d) ∧ SL w B m d (ps.getD j (0,[])).2 ∧ (Lit.int .i64 (ps.getD j (0,[])).1).wf = true
theorem SPo.below {w w':World} {A:Option Addr} {n c:Nat} {ps:List Po} (h:SPo w A n c ps) (hb:Below w.heap.size w w'):SPo w' A n c ps:=
  ⟨h.len,h.small,h.nil,h.cap,fun hn => by
    obtain ⟨ad,e,hl,hc⟩:=h.mem hn
    refine ⟨ad,e,Nat.lt_of_lt_of_le hl hb.size,fun j hj => ?_⟩
    obtain ⟨B,m,d,h1,h2,h3,h4⟩:=hc j hj
    exact ⟨B,m,d,(hb.cell (p:=ad.add (j * 2)) (by rw [block_of_add];exact hl)).trans h1,(hb.cell (p:=⟨(ad.add (j * 2)).block,(ad.add (j * 2)).off + 1,none⟩) (by show (ad.add (j * 2)).block < _;rw [block_of_add];exact hl)).trans h2,h3.below hb,h4⟩⟩
structure SPP (w:World) (A:Option Addr) (n c:Nat) (pss:List (List Po)):Prop where
  len:pss.length = n
  small:n ≤ 17592186044416
  nil:A = none → n = 0 ∧ c = 0
  cap:n ≤ c
  mem:0 < n → ∃ ad,A = some ad ∧ ad.block < w.heap.size ∧ ∀ j,j < n → ∃ B m d,w.cell? (ad.add j) = some (.slice B m d) ∧ SPo w B m d (pss.getD j [])
theorem SPP.below {w w':World} {A:Option Addr} {n c:Nat} {pss:List (List Po)} (h:SPP w A n c pss) (hb:Below w.heap.size w w'):SPP w' A n c pss:=
  ⟨h.len,h.small,h.nil,h.cap,fun hn => by
    obtain ⟨ad,e,hl,hc⟩:=h.mem hn
    refine ⟨ad,e,Nat.lt_of_lt_of_le hl hb.size,fun j hj => ?_⟩
    obtain ⟨B,m,d,h1,h2⟩:=hc j hj
    exact ⟨B,m,d,(hb.cell (p:=ad.add j) (by rw [block_of_add];exact hl)).trans h1,h2.below hb⟩⟩
theorem SPP.at_ {w:World} {A:Option Addr} {n c k:Nat} {pss:List (List Po)} (h:SPP w A n c pss) (hk:k < n):∃ ad B m d,A = some ad ∧ w.cell? (ad.add k) = some (.slice B m d) ∧ SPo w B m d (pss.getD k []):=by
  obtain ⟨ad,e,_,hc⟩:=h.mem (by omega)
  obtain ⟨B,m,d,h1,h2⟩:=hc k hk
  exact ⟨ad,B,m,d,e,h1,h2⟩
theorem SPo.at_ {w:World} {A:Option Addr} {n c k:Nat} {ps:List Po} (h:SPo w A n c ps) (hk:k < n):∃ ad B m d,A = some ad ∧ w.cell? (ad.add (k * 2)) = some (.int .i64 (ps.getD k (0,[])).1) ∧ w.cell? ⟨(ad.add (k * 2)).block,(ad.add (k * 2)).off + 1,none⟩ = some (.slice B m d) ∧ SL w B m d (ps.getD k (0,[])).2 ∧ (Lit.int .i64 (ps.getD k (0,[])).1).wf = true:=by
  obtain ⟨ad,e,_,hc⟩:=h.mem (by omega)
  obtain ⟨B,m,d,h1,h2,h3,h4⟩:=hc k hk
  exact ⟨ad,B,m,d,e,h1,h2,h3,h4⟩
end Go.Proofs.YtndgffiihbdppaaGreatDoor
namespace Go.Proofs.YtndgffiihbdppaaGreatDoor
set_option linter.unusedVariables false
set_option linter.unusedSimpArgs false
open Go.RowKit

theorem LP.pfl_big {lo:Int} {xs:List Int} (h:200 < xs.length ∨ 1000 < lo ∨ lo < -1000):LP.pfl lo xs = 2:=by unfold LP.pfl;rw [if_pos h]
theorem LP.pfl_bad {lo:Int} {xs:List Int} (h:¬ (200 < xs.length ∨ 1000 < lo ∨ lo < -1000)) (h2:(xs.length = 0 ∧ lo ≠ 0) ∨ (0 < xs.length ∧ (xs.getD 0 0 = 0 ∨ xs.getD (xs.length - 1) 0 = 0))):LP.pfl lo xs = 3:=by unfold LP.pfl;rw [if_neg h,if_pos h2]
theorem LP.pfl_loop {lo:Int} {xs:List Int} (h:¬ (200 < xs.length ∨ 1000 < lo ∨ lo < -1000)) (h2:¬ ((xs.length = 0 ∧ lo ≠ 0) ∨ (0 < xs.length ∧ (xs.getD 0 0 = 0 ∨ xs.getD (xs.length - 1) 0 = 0)))):LP.pfl lo xs = if xs.all LP.okC then 0 else 1:=by unfold LP.pfl;rw [if_neg h,if_neg h2]
theorem results_pe {fn:Func} {t u:Tmp} {b:Nat} {v0 v1 e:Value} {w:World} (h:fn.results = #[.cell t 26,.tmp u]) (tmps:Array Value) (ht:tmps.getD t undef = .pointer (some ⟨b,0,none⟩)) (hu:tmps.getD u undef = e) (hb:Blk w b 26 #[v0,v1]) :
    (results fn tmps).run Tryz.prog w = .ok (.tuple #[.agg #[v0,v1],e]) w:=by
  have h0:=hb.cell 0
  have h1:=hb.cell 1
  simp at h0 h1
  have ht2:tmps[t]?.getD undef = .pointer (some ⟨b,0,none⟩):=by simpa using ht
  have hu2:tmps[u]?.getD undef = e:=by simpa using hu
  simp [results,h,ht2,hu2,go_sem,h0,h1,Result.andThen]
def LP.fitL (lo:Int) (cs:List Int):PR:=if pfl lo cs = 0 then (0,lo,cs) else (2,0,[])
end Go.Proofs.YtndgffiihbdppaaGreatDoor
namespace Go.Proofs.YtndgffiihbdppaaGreatDoor
set_option linter.unusedVariables false
set_option linter.unusedSimpArgs false
open Go.RowKit

def mP (pss:List (List Po)):Mtx LP:=fun i j => LP.of ((pss.getD i []).getD j (0,[])).1 ((pss.getD i []).getD j (0,[])).2
theorem getD_of_lt {α:Type} {l:List α} {i:Nat} (d:α) (h:i < l.length):l.getD i d = l[i]:=by simp [List.getD,List.getElem?_eq_getElem h]
end Go.Proofs.YtndgffiihbdppaaGreatDoor
namespace Go.Proofs.YtndgffiihbdppaaGreatDoor
set_option linter.unusedVariables false
set_option linter.unusedSimpArgs false

section
open CR
variable {R:Type} [CR R]
end

noncomputable def cP (x:LP):Po:=((LP.canon x).1,(LP.canon x).2)
theorem of_cP (x:LP):LP.of (cP x).1 (cP x).2 = x:=LP.of_canon x
end Go.Proofs.YtndgffiihbdppaaGreatDoor
namespace Go.Proofs.YtndgffiihbdppaaGreatDoor
set_option linter.unusedVariables false
set_option linter.unusedSimpArgs false

def okX (n x:Int):Bool:=decide (x ≠ 0 ∧ x < n ∧ -n < x)
def bfault (n:Int) (w:List Int):Int:=if n < 1 ∨ 6 < n then 1 else if 30 < w.length then 2 else if w.all (okX n) then 0 else 3
theorem bfault_zero {n:Int} {w:List Int} (h:bfault n w = 0):1 ≤ n ∧ n ≤ 6 ∧ w.length ≤ 30 ∧ ∀ x ∈ w,x ≠ 0 ∧ x < n ∧ -n < x:=by
  unfold bfault at h
  split at h
  · omega
  · next h1 =>
    split at h
    · omega
    · next h2 =>
      split at h
      · next h3 => exact ⟨by omega,by omega,by omega,fun x hx => by simpa [okX] using List.all_eq_true.1 h3 x hx⟩
      · omega
theorem bfault_ok {n:Int} {w:List Int} (h1:1 ≤ n) (h6:n ≤ 6) (h:w.length ≤ 30) (hw:∀ x ∈ w,x ≠ 0 ∧ x < n ∧ -n < x):bfault n w = 0:=by
  unfold bfault
  rw [if_neg (by omega),if_neg (by omega),if_pos (List.all_eq_true.2 fun x hx => by simpa [okX] using hw x hx)]
def stepE (at_:Nat) (x:Int):Nat:=if at_ + 1 = x.natAbs then at_ + 1 else if at_ = x.natAbs then at_ - 1 else at_
def endE (w:List Int) (s:Nat):Nat:=w.foldl stepE s
def endsL (n:Nat) (w:List Int):List Nat:=(List.range n).map (endE w)
theorem endsL_length (n:Nat) (w:List Int):(endsL n w).length = n:=by simp [endsL]
theorem stepE_lt {n at_:Nat} {x:Int} (hx:x ≠ 0) (h1:x.natAbs < n) (h:at_ < n):stepE at_ x < n:=by
  unfold stepE
  split
  · omega
  · split <;> omega
theorem endE_lt {n:Nat}:∀ {w:List Int},okB n w → ∀ {s:Nat},s < n → endE w s < n
  | [],_,s,h => h
  | x :: w,hw,s,h => by
    show endE w (stepE s x) < n
    exact endE_lt (fun y hy => hw y (by simp [hy])) (stepE_lt (hw x (by simp)).1 (hw x (by simp)).2 h)
theorem endE_append (u v:List Int) (s:Nat):endE (u ++ v) s = endE v (endE u s):=by unfold endE;rw [List.foldl_append]
theorem endE_snoc (w:List Int) (x:Int) (s:Nat):endE (w ++ [x]) s = stepE (endE w s) x:=by rw [endE_append];rfl
def RelE (a b:List Int):Prop:=∀ s,endE a s = endE b s
theorem stepE_neg (s:Nat) (x:Int):stepE s (-x) = stepE s x:=by unfold stepE;rw [Int.natAbs_neg]
theorem stepE_twice {x:Int} (h:x ≠ 0) (s:Nat):stepE (stepE s x) x = s:=by
  unfold stepE
  by_cases h1:s + 1 = x.natAbs
  · rw [if_pos h1,if_neg (by omega),if_pos (by omega)];omega
  · rw [if_neg h1]
    by_cases h2:s = x.natAbs
    · rw [if_pos h2,if_pos (by omega)];omega
    · rw [if_neg h2,if_neg h1,if_neg h2]
theorem relE_x {x:Int} (h:x ≠ 0):RelE [x,-x] []:=fun s => by
  show stepE (stepE s x) (-x) = s
  rw [stepE_neg,stepE_twice h]
theorem endE_inv:∀ (w:List Int),(∀ x ∈ w,x ≠ 0) → ∀ s,endE (w ++ invw w) s = s
  | [],_,_ => rfl
  | x :: w,h,s => by
    have e:invw (x :: w) = invw w ++ [-x]:=by simp [invw]
    rw [e,show x :: w ++ (invw w ++ [-x]) = [x] ++ ((w ++ invw w) ++ [-x]) by simp,endE_append,endE_append,endE_inv w (fun y hy => h y (by simp [hy])),← endE_append]
    exact relE_x (h x (by simp)) s
end Go.Proofs.YtndgffiihbdppaaGreatDoor
namespace Go.Proofs.YtndgffiihbdppaaGreatDoor
set_option linter.unusedVariables false
set_option linter.unusedSimpArgs false
open Go.Shelf
def lays212_ren:Go.Shelf.Ren:=⟨fun | 212 => 12 | 263 => 26 | 264 => 27 | n => n,fun | 46 => 39 | 51 => 55 | 146 => 56 | 53 => 58 | 148 => 59 | n => n,fun | n => n⟩
theorem lays212:Go.Proofs.Lays.n212 Tryz.prog lays212_ren:={
  mixed:=by kernel_rfl
  f212:=Tryz.func12.trans (congrArg some (by kernel_rfl))
  f263:=Tryz.func26.trans (congrArg some (by kernel_rfl))
  f264:=Tryz.func27.trans (congrArg some (by kernel_rfl))
  t46:=Tryz.underlying39
  a46:=Tryz.isAgg39
  z46:=Tryz.sizeOf39
  v46:=Tryz.zeroValue39
  t51:=Tryz.underlying55
  a51:=Tryz.isAgg55
  z51:=Tryz.sizeOf55
  v51:=Tryz.zeroValue55
  t53:=Tryz.underlying58
  a53:=Tryz.isAgg58
  z53:=Tryz.sizeOf58
  v53:=Tryz.zeroValue58
  t146:=Tryz.underlying56
  a146:=Tryz.isAgg56
  z146:=Tryz.sizeOf56
  v146:=Tryz.zeroValue56
  t148:=Tryz.underlying59
  a148:=Tryz.isAgg59
  z148:=Tryz.sizeOf59
  v148:=Tryz.zeroValue59 }
open Go.RowKit Go.Lib in
theorem bits_Mul (x y:Nat) (hx:x < 18446744073709551616) (hy:y < 18446744073709551616) (w:World) :
    Calls Tryz.prog 12 #[.int .u64 x,.int .u64 y] w fun e w' => e = .returned (.tuple #[.int .u64 ((x * y / 18446744073709551616:Nat):Int),.int .u64 ((x * y % 18446744073709551616:Nat):Int)]) ∧ w' = w:=Any.bits_Mul lays212 x y hx hy w
end Go.Proofs.YtndgffiihbdppaaGreatDoor
