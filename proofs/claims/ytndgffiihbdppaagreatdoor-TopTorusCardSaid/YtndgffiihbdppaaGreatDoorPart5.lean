/- Several texts in one. -/
import Derived.Test.YtndgffiihbdppaaGreatDoorPart1
import Derived.Test.YtndgffiihbdppaaGreatDoorBase1
import Derived.Deep.DeepCutAuto
import Derived.Handy
import Derived.Laws.EntriesVeiled
import Derived.Test.YtndgffiihbdppaaGreatDoorPart4
import Derived.Test.YtndgffiihbdppaaGreatDoorPart2
import Derived.Test.YtndgffiihbdppaaGreatDoorPart3
namespace Go.Proofs.YtndgffiihbdppaaGreatDoor
set_option linter.unusedVariables false
set_option linter.unusedSimpArgs false
open Go.RowKit

theorem IL.kept {w w':World} {A:Option Addr} {n:Nat} {xs:List Int} (h:IL w A n xs) {g:Nat} (hg:w.grownBy w' (some g)) (hne:∀ ad,A = some ad → ad.block ≠ g):IL w' A n xs:=
  ⟨h.len,h.small,fun hn => by
    obtain ⟨ad,e,hl,hc⟩:=h.mem hn
    refine ⟨ad,e,Nat.lt_of_lt_of_le hl hg.size,fun j hj => ?_⟩
    rw [hg.cell_far (ad.add j) (by rw [block_of_add];exact hl) (by rw [block_of_add];exact fun e' => hne ad e (by injection e'))]
    exact hc j hj⟩
theorem Blk.kept {w w':World} {g k:Nat} {t:TypeId} {cs:Array Value} (h:Blk w k t cs) (hg:w.grownBy w' (some g)) (hne:k ≠ g):Blk w' k t cs:=h.grown hg (fun e => hne (by injection e))
theorem grownBy_of_below {w w':World} (h:Below w.heap.size w w') (g:Option Nat):w.grownBy w' g:=⟨h.os,h.tape,h.output,h.size,fun k hk _ => h.block k hk⟩

section
variable {fid:FuncId} {caps:List Value} {g:Nat} {σ:Type} {J:σ → World → Prop} {step:σ → List Nat → σ} {n:Nat}
end
end Go.Proofs.YtndgffiihbdppaaGreatDoor
namespace Go.Proofs.YtndgffiihbdppaaGreatDoor
set_option linter.unusedVariables false
set_option linter.unusedSimpArgs false
open Go.RowKit

def matF (xss:List (List Int)):Mtx Int:=fun i j => (xss.getD i []).getD j 0
theorem abs_mul_le {a b:Int} {x y:Nat} (ha:a.natAbs ≤ x) (hb:b.natAbs ≤ y):(a * b).natAbs ≤ x * y:=by
  rw [Int.natAbs_mul]
  exact Nat.mul_le_mul ha hb
theorem grownBy_set1 (w:World) (b i:Nat) (v:Value):w.grownBy (w.setCell ⟨b,i,none⟩ v) (some b):=
  ⟨rfl,rfl,rfl,by simp,fun k _ hk => Below.heap_setCell w _ v k (fun e => hk (by rw [e]))⟩
theorem natAbs_sum_le {B:Nat} {f:Nat → Int}:∀ {n:Nat},(∀ i,i < n → (f i).natAbs ≤ B) → (CR.sumN n f).natAbs ≤ n * B
  | 0,_ => by simp [CR.sumN_zero]
  | n + 1,h => by
    rw [CR.sumN_succ]
    have h1:=natAbs_sum_le (n:=n) fun i hi => h i (by omega)
    have h2:=h n (by omega)
    have h3:=Int.natAbs_add_le (CR.sumN n f) (f n)
    rw [Nat.add_one_mul]
    exact Nat.le_trans h3 (by omega)
theorem detR_le {B:Nat}:∀ (n:Nat) (M:Mtx Int),(∀ i,i < n → ∀ j,j < n → (M i j).natAbs ≤ B) → (detR n M).natAbs ≤ fct n * B ^ n
  | 0,M,_ => by simp [detR,fct]
  | n + 1,M,h => by
    have:=natAbs_sum_le (B:=B * (fct n * B ^ n)) (n:=n + 1) (f:=fun j => CR.sgR Int j * (M 0 j * detR n fun a b => M (a + 1) (CR.skip j b))) (fun j hj => by
      have h1:(CR.sgR Int j).natAbs ≤ 1:=by unfold CR.sgR;split <;> decide
      have h2:=abs_mul_le (h 0 (by omega) j hj) (detR_le n (fun a b => M (a + 1) (CR.skip j b)) fun a ha b hb => h _ (by omega) _ (skip_lt hb))
      have h3:=abs_mul_le h1 h2
      rwa [Nat.one_mul] at h3)
    refine Nat.le_trans this (Nat.le_of_eq ?_)
    show _ = (n + 1) * fct n * B ^ (n + 1)
    rw [Nat.pow_succ]
    ac_rfl

end Go.Proofs.YtndgffiihbdppaaGreatDoor
namespace Go.Proofs.YtndgffiihbdppaaGreatDoor
set_option linter.unusedVariables false
set_option linter.unusedSimpArgs false
open Go.RowKit

def colsM (xss:List (List Int)):Nat:=(xss.getD 0 []).length
noncomputable def smithS (n m:Nat) (A:Mtx Int):Nat → Int:=Classical.choose (smith n m A)
theorem smithS_chain (n m:Nat) (A:Mtx Int):∀ i,i + 1 < min n m → smithS n m A i ∣ smithS n m A (i + 1):=(Classical.choose_spec (smith n m A)).1
theorem smithS_el (n m:Nat) (A:Mtx Int):El n m A (diagM (smithS n m A)):=(Classical.choose_spec (smith n m A)).2
def digI (q t i:Nat):Int:=((t / q ^ i % q:Nat):Int)
def dotI (r:List Int) (v:Nat → Int):Int:=CR.sumN r.length fun i => r.getD i 0 * v i
def solB (xss:List (List Int)) (q t:Nat):Bool:=xss.all fun r => dotI r (digI q t) % (q:Int) == 0
def solN (xss:List (List Int)) (m q:Nat):Nat:=(List.range (q ^ m)).countP fun t => solB xss q t
def solE (xss:List (List Int)) (q:Int):Int:=if mfault xss = 0 then (if q < 1 ∨ 13 < q then 1 else 0) else mfault xss
def solV (xss:List (List Int)) (q:Int):Int:=if solE xss q = 0 then (solN xss (colsM xss) q.toNat:Nat) else 0

/-! ### the matrix [2 0] [0 3] -/
theorem mat_rows {xss:List (List Int)} (h:mfault xss = 0):xss.length ≤ 6 ∧ colsM xss ≤ 6 ∧ (∀ i,i < xss.length → (xss.getD i []).length = colsM xss) ∧ ∀ i j,(matF xss i j).natAbs ≤ 100:=by
  obtain ⟨h1,h2,h3⟩:=mfault_zero h
  have hm:∀ i,i < xss.length → xss.getD i [] ∈ xss:=fun i hi => by
    rw [show xss.getD i [] = xss[i] by simp [List.getD,List.getElem?_eq_getElem hi]]
    exact List.getElem_mem _
  refine ⟨h1,h2,fun i hi => (h3 _ (hm i hi)).1,fun i j => ?_⟩
  unfold matF
  by_cases hi:i < xss.length
  · by_cases hj:j < (xss.getD i []).length
    · have:=(h3 _ (hm i hi)).2 _ (getD_memI hj)
      omega
    · have:(xss.getD i []).getD j 0 = 0:=by rw [List.getD_eq_getElem?_getD,List.getElem?_eq_none (by omega)];rfl
      rw [this];decide
  · have:xss.getD i [] = []:=by rw [List.getD_eq_getElem?_getD,List.getElem?_eq_none (by omega)];rfl
    rw [this];simp
end Go.Proofs.YtndgffiihbdppaaGreatDoor
namespace Go.Proofs.YtndgffiihbdppaaGreatDoor
set_option linter.unusedVariables false
set_option linter.unusedSimpArgs false
open Go.RowKit

def sN:Nat → (Nat → Nat) → Nat
  | 0,_ => 0
  | k + 1,f => sN k f + f k
theorem sN_congr {k:Nat} {f g:Nat → Nat} (h:∀ i,i < k → f i = g i):sN k f = sN k g:=by
  induction k with
  | zero => rfl
  | succ k ih => show sN k f + f k = sN k g + g k;rw [ih fun i hi => h i (by omega),h k (by omega)]
theorem countP_split (a:Nat) (p:Nat → Bool):∀ b,(List.range (a * b)).countP p = sN b fun x => (List.range a).countP fun s => p (x * a + s)
  | 0 => rfl
  | b + 1 => by
    show _ = sN b _ + _
    rw [← countP_split a p b,Nat.mul_add,Nat.mul_one,List.range_add,List.countP_append,List.countP_map]
    congr 1
    refine List.countP_congr fun s _ => ?_
    rw [Nat.mul_comm]
    rfl

def cntS (xss:List (List Int)) (q:Nat):Nat → (Nat → Int) → Nat
  | 0,c => if ∀ i,i < xss.length → c i % (q:Int) = 0 then 1 else 0
  | k + 1,c => sN q fun x => cntS xss q k fun i => c i + (x:Int) * matF xss i k

theorem digI_low {q k x s j:Nat} (hq:0 < q) (hj:j < k):digI q (x * q ^ k + s) j = digI q s j:=by
  unfold digI
  obtain ⟨d,rfl⟩:∃ d,k = j + (d + 1):=⟨k - j - 1,by omega⟩
  rw [show x * q ^ (j + (d + 1)) + s = s + q ^ j * (x * q ^ d * q) by rw [Nat.pow_add,Nat.pow_succ,Nat.add_comm];congr 1;grind]
  rw [Nat.add_mul_div_left _ _ (Nat.pow_pos hq),Nat.add_mul_mod_self_right]
theorem digI_top {q k x s:Nat} (hq:0 < q) (hx:x < q) (hs:s < q ^ k):digI q (x * q ^ k + s) k = x:=by
  unfold digI
  rw [show x * q ^ k + s = s + q ^ k * x by rw [Nat.add_comm,Nat.mul_comm],Nat.add_mul_div_left _ _ (Nat.pow_pos hq),Nat.div_eq_of_lt hs,Nat.zero_add,Nat.mod_eq_of_lt hx]
theorem cntS_eq (xss:List (List Int)) {q:Nat} (hq:0 < q):∀ (k:Nat) (c:Nat → Int),
    (List.range (q ^ k)).countP (fun t => decide (∀ i,i < xss.length → (c i + CR.sumN k fun j => matF xss i j * digI q t j) % (q:Int) = 0)) = cntS xss q k c
  | 0,c => by
    rw [Nat.pow_zero]
    show List.countP _ [0] = _
    rw [List.countP_singleton]
    unfold cntS
    simp only [CR.sumN_zero,decide_eq_true_eq]
    simp
  | k + 1,c => by
    rw [Nat.pow_succ,countP_split]
    show _ = sN q fun x => cntS xss q k fun i => c i + (x:Int) * matF xss i k
    refine sN_congr fun x hx => ?_
    rw [← cntS_eq xss hq k]
    refine List.countP_congr fun s hs => ?_
    have hs:=List.mem_range.1 hs
    simp only [decide_eq_true_eq]
    refine forall_congr' fun i => ?_
    refine imp_congr_right fun hi => ?_
    rw [CR.sumN_succ,digI_top hq hx hs]
    have h:(CR.sumN k fun j => matF xss i j * digI q (x * q ^ k + s) j) = CR.sumN k fun j => matF xss i j * digI q s j:=CR.sumN_congr fun j hj => by rw [digI_low hq hj]
    rw [h]
    generalize (CR.sumN k fun j => matF xss i j * digI q s j) = S
    have e:c i + (S + matF xss i k * (x:Int)) = c i + (x:Int) * matF xss i k + S:=by
      rw [Int.mul_comm (x:Int)];omega
    rw [e]
theorem solN_cnt {xss:List (List Int)} {m q:Nat} (hq:0 < q) (hm:∀ i,i < xss.length → (xss.getD i []).length = m):solN xss m q = cntS xss q m fun _ => 0:=by
  rw [← cntS_eq xss hq]
  unfold solN
  refine List.countP_congr fun t _ => ?_
  unfold solB
  rw [List.all_eq_true,decide_eq_true_eq]
  constructor
  · intro h i hi
    have e:xss.getD i [] = xss[i]:=by simp [List.getD,List.getElem?_eq_getElem hi]
    have h2:=h (xss.getD i []) (by rw [e];exact List.getElem_mem _)
    unfold dotI at h2
    rw [hm i hi] at h2
    rw [Int.zero_add]
    have h3:(CR.sumN m fun j => (xss.getD i []).getD j 0 * digI q t j) % (q:Int) = 0:=eq_of_beq h2
    exact h3
  · intro h r hr
    obtain ⟨i,hi,rfl⟩:=List.getElem_of_mem hr
    have e:xss.getD i [] = xss[i]:=by simp [List.getD,List.getElem?_eq_getElem hi]
    have h2:=h i hi
    rw [Int.zero_add] at h2
    unfold dotI
    rw [← e,hm i hi]
    have h3:(CR.sumN m fun j => (xss.getD i []).getD j 0 * digI q t j) % (q:Int) = 0:=h2
    rw [h3];rfl
end Go.Proofs.YtndgffiihbdppaaGreatDoor
namespace Go.Proofs.YtndgffiihbdppaaGreatDoor
set_option linter.unusedVariables false
set_option linter.unusedSimpArgs false
open Go.RowKit

def updV (v:Nat → Int) (k:Nat) (x:Int):Nat → Int:=fun i => if i = k then x else v i
def sV (q:Nat):Nat → ((Nat → Int) → Nat) → Nat
  | 0,F => F fun _ => 0
  | k + 1,F => sN q fun x => sV q k fun v => F (updV v k x)
theorem updV_same (v:Nat → Int) (k:Nat) (x:Int):updV v k x k = x:=by simp [updV]
theorem updV_ne (v:Nat → Int) {k i:Nat} (x:Int) (h:i ≠ k):updV v k x i = v i:=by simp [updV,h]
theorem updV_updV (v:Nat → Int) (k:Nat) (x y:Int):updV (updV v k x) k y = updV v k y:=by funext i;unfold updV;split <;> rfl
theorem updV_comm (v:Nat → Int) {k s:Nat} (x y:Int) (h:k ≠ s):updV (updV v k x) s y = updV (updV v s y) k x:=by
  funext i
  unfold updV
  grind
theorem updV_pos {v:Nat → Int} (h:∀ j,0 ≤ v j) (k x:Nat):∀ j,0 ≤ updV v k x j:=fun j => by
  unfold updV
  split
  · omega
  · exact h j
theorem sV_congr {q:Nat}:∀ {k:Nat} {F G:(Nat → Int) → Nat},(∀ v,(∀ j,0 ≤ v j) → F v = G v) → sV q k F = sV q k G
  | 0,F,G,h => h _ fun _ => Int.le_refl _
  | k + 1,F,G,h => sN_congr fun x _ => sV_congr fun v hv => h _ (updV_pos hv k x)
theorem sN_add (f g:Nat → Nat):∀ n,sN n (fun i => f i + g i) = sN n f + sN n g
  | 0 => rfl
  | n + 1 => by show sN n _ + _ = _;rw [sN_add f g n];show sN n f + sN n g + (f n + g n) = (sN n f + f n) + (sN n g + g n);omega
theorem sN_mul (c:Nat) (f:Nat → Nat):∀ n,sN n (fun i => f i * c) = sN n f * c
  | 0 => by show 0 = 0 * c;rw [Nat.zero_mul]
  | n + 1 => by show sN n _ + _ = _;rw [sN_mul c f n];show _ = (sN n f + f n) * c;rw [Nat.add_mul]
theorem sN_mul' (c:Nat) (f:Nat → Nat) (n:Nat):sN n (fun i => c * f i) = c * sN n f:=by
  rw [Nat.mul_comm,← sN_mul]
  exact sN_congr fun i _ => Nat.mul_comm _ _
theorem sN_zero0:∀ n,sN n (fun _ => 0) = 0
  | 0 => rfl
  | n + 1 => by show sN n _ + 0 = 0;rw [sN_zero0 n]
theorem sN_swap (f:Nat → Nat → Nat) (m:Nat):∀ n,sN n (fun i => sN m fun j => f i j) = sN m fun j => sN n fun i => f i j
  | 0 => (sN_zero0 m).symm
  | n + 1 => by
    show sN n _ + _ = _
    rw [sN_swap f m n,← sN_add]
    rfl
theorem sN_sV {q n:Nat}:∀ {k:Nat} (F:Nat → (Nat → Int) → Nat),sN n (fun x => sV q k (F x)) = sV q k fun v => sN n fun x => F x v
  | 0,F => rfl
  | k + 1,F => by
    show sN n (fun x => sN q fun y => sV q k fun v => F x (updV v k y)) = sN q fun y => sV q k fun v => sN n fun x => F x (updV v k y)
    rw [sN_swap]
    exact sN_congr fun y _ => sN_sV fun x v => F x (updV v k y)
theorem sV_mul {q c:Nat}:∀ {k:Nat} (F:(Nat → Int) → Nat),sV q k (fun v => F v * c) = sV q k F * c
  | 0,F => rfl
  | k + 1,F => by
    show sN q _ = sN q _ * c
    rw [← sN_mul]
    exact sN_congr fun x _ => sV_mul fun v => F (updV v k x)
theorem sN_front (f:Nat → Nat):∀ n,sN (n + 1) f = f 0 + sN n fun i => f (i + 1)
  | 0 => by show 0 + f 0 = f 0 + 0;omega
  | n + 1 => by
    show sN (n + 1) f + f (n + 1) = f 0 + (sN n (fun i => f (i + 1)) + f (n + 1))
    rw [sN_front f n];omega
theorem sN_rot1 {q:Nat} (hq:0 < q) (f:Nat → Nat):sN q (fun x => f ((x + 1) % q)) = sN q f:=by
  obtain ⟨p,rfl⟩:∃ p,q = p + 1:=⟨q - 1,by omega⟩
  rw [sN_front f]
  show sN p (fun x => f ((x + 1) % (p + 1))) + f ((p + 1) % (p + 1)) = _
  rw [Nat.mod_self,Nat.add_comm]
  congr 1
  exact sN_congr fun i hi => by rw [Nat.mod_eq_of_lt (by omega)]
theorem sN_rot {q:Nat} (hq:0 < q):∀ (c:Nat) (f:Nat → Nat),sN q (fun x => f ((x + c) % q)) = sN q f
  | 0,f => sN_congr fun i hi => by rw [Nat.add_zero,Nat.mod_eq_of_lt hi]
  | c + 1,f => by
    rw [← sN_rot1 hq f,← sN_rot hq c fun y => f ((y + 1) % q)]
    refine sN_congr fun i _ => ?_
    rw [show i + (c + 1) = i + c + 1 by omega,Nat.mod_add_mod]
theorem sV_shift {q:Nat} (hq:0 < q) (s:Nat):∀ (k:Nat) (σ:(Nat → Int) → Nat) (F:(Nat → Int) → Nat),(∀ v x,σ (updV v s x) = σ v) → s < k → sV q k (fun v => F (updV v s ((((v s).toNat + σ v) % q:Nat):Int))) = sV q k F
  | 0,σ,F,_,h => absurd h (by omega)
  | k + 1,σ,F,hσ,h => by
    by_cases hs:s = k
    · subst hs
      show sN q (fun x => sV q s fun v => F (updV (updV v s x) s ((((updV v s x s).toNat + σ (updV v s x)) % q:Nat):Int))) = sN q fun x => sV q s fun v => F (updV v s x)
      rw [sN_sV,sN_sV]
      refine sV_congr fun v _ => ?_
      rw [← sN_rot hq (σ v) fun y => F (updV v s y)]
      refine sN_congr fun x _ => ?_
      rw [updV_updV,updV_same,hσ,Int.toNat_natCast]
    · show sN q (fun x => sV q k fun v => F (updV (updV v k x) s ((((updV v k x s).toNat + σ (updV v k x)) % q:Nat):Int))) = sN q fun x => sV q k fun v => F (updV v k x)
      refine sN_congr fun x _ => ?_
      rw [← sV_shift hq s k (fun v => σ (updV v k x)) (fun v => F (updV v k x)) (fun v y => by
        show σ (updV (updV v s y) k x) = σ (updV v k x)
        rw [updV_comm v y x hs,hσ]) (by omega)]
      refine sV_congr fun v _ => ?_
      rw [updV_ne v _ hs,updV_comm v _ _ (fun e => hs e.symm)]

def solI (n m q:Nat) (A:Mtx Int) (v:Nat → Int):Nat:=if ∀ i,i < n → (q:Int) ∣ CR.sumN m fun j => A i j * v j then 1 else 0
def solM (n m q:Nat) (A:Mtx Int):Nat:=sV q m (solI n m q A)
theorem solI_congr {n m q:Nat} {A B:Mtx Int} {v u:Nat → Int} (h:(∀ i,i < n → (q:Int) ∣ CR.sumN m fun j => A i j * v j) ↔ ∀ i,i < n → (q:Int) ∣ CR.sumN m fun j => B i j * u j):solI n m q A v = solI n m q B u:=by
  unfold solI
  simp only [h]
theorem cntS_sV (xss:List (List Int)) (q:Nat):∀ (k:Nat) (c:Nat → Int),cntS xss q k c = sV q k fun v => if ∀ i,i < xss.length → (c i + CR.sumN k fun j => matF xss i j * v j) % (q:Int) = 0 then 1 else 0
  | 0,c => by
    unfold cntS sV
    simp only [CR.sumN_zero]
    simp
  | k + 1,c => by
    unfold cntS sV
    refine sN_congr fun x _ => ?_
    rw [cntS_sV xss q k]
    refine sV_congr fun v _ => ?_
    have h:∀ i,c i + (x:Int) * matF xss i k + (CR.sumN k fun j => matF xss i j * v j) = c i + CR.sumN (k + 1) fun j => matF xss i j * updV v k x j:=fun i => by
      rw [CR.sumN_succ,updV_same]
      rw [CR.sumN_congr (f:=fun j => matF xss i j * updV v k x j) (g:=fun j => matF xss i j * v j) fun j hj => by rw [updV_ne v _ (by omega)]]
      rw [Int.mul_comm (x:Int)]
      omega
    simp only [h]
theorem solN_solM {xss:List (List Int)} {m q:Nat} (hq:0 < q) (hm:∀ i,i < xss.length → (xss.getD i []).length = m):solN xss m q = solM xss.length m q (matF xss):=by
  rw [solN_cnt hq hm,cntS_sV]
  refine sV_congr fun v _ => ?_
  unfold solI
  have h:(∀ i,i < xss.length → (0 + CR.sumN m fun j => matF xss i j * v j) % (q:Int) = 0) ↔ ∀ i,i < xss.length → (q:Int) ∣ CR.sumN m fun j => matF xss i j * v j:=
    forall_congr' fun i => imp_congr_right fun _ => by rw [Int.zero_add];exact ⟨Int.dvd_of_emod_eq_zero,Int.emod_eq_zero_of_dvd⟩
  simp only [h]

theorem sum_row (m:Nat) (a b v:Nat → Int) (d:Int):(CR.sumN m fun j => (a j + d * b j) * v j) = (CR.sumN m fun j => a j * v j) + d * CR.sumN m fun j => b j * v j:=by
  have h2:=CR.sumN_mul d (fun j => b j * v j) m
  rw [← show (CR.sumN m fun j => d * (b j * v j)) = _ from h2,← show (CR.sumN m fun j => a j * v j + d * (b j * v j)) = _ from CR.sumN_add _ _ m]
  exact CR.sumN_congr fun j _ => by grind
theorem sum_upd {m s:Nat} (hs:s < m) (a v:Nat → Int) (y:Int):(CR.sumN m fun j => a j * updV v s y j) = (CR.sumN m fun j => a j * v j) + a s * (y - v s):=by
  have h1:(CR.sumN m fun j => if j = s then a s * (y - v s) else 0) = a s * (y - v s):=by
    have h:=CR.sumN_single (R:=Int) (f:=fun j => if j = s then a s * (y - v s) else 0) hs fun i _ hne => by simp [hne]
    simpa using h
  conv => rhs;rw [← h1]
  rw [← show (CR.sumN m fun j => a j * v j + if j = s then a s * (y - v s) else 0) = _ from CR.sumN_add _ _ m]
  refine CR.sumN_congr fun j _ => ?_
  unfold updV
  grind
theorem sum_col {m r:Nat} (hr:r < m) (a v:Nat → Int) (e:Int):(CR.sumN m fun j => (if j = r then a j + e else a j) * v j) = (CR.sumN m fun j => a j * v j) + e * v r:=by
  have h1:(CR.sumN m fun j => if j = r then e * v r else 0) = e * v r:=by
    have h:=CR.sumN_single (R:=Int) (f:=fun j => if j = r then e * v r else 0) hr fun i _ hne => by simp [hne]
    simpa using h
  conv => rhs;rw [← h1]
  rw [← show (CR.sumN m fun j => a j * v j + if j = r then e * v r else 0) = _ from CR.sumN_add _ _ m]
  refine CR.sumN_congr fun j _ => ?_
  grind

theorem El.sol {n m q:Nat} {A B:Mtx Int} (hq:0 < q) (h:El n m A B):solM n m q A = solM n m q B:=by
  induction h with
  | ext h => exact sV_congr fun v _ => solI_congr (forall_congr' fun i => imp_congr_right fun hi => by rw [CR.sumN_congr fun j hj => by rw [h i hi j hj]])
  | row A r s c hr hs hne =>
    refine sV_congr fun v _ => solI_congr ?_
    have e1:∀ i,i ≠ r → (CR.sumN m fun j => addR A r s c i j * v j) = CR.sumN m fun j => A i j * v j:=fun i hi => CR.sumN_congr fun j _ => by unfold addR;rw [updR_ne _ _ hi]
    have e2:(CR.sumN m fun j => addR A r s c r j * v j) = (CR.sumN m fun j => A r j * v j) + c * CR.sumN m fun j => A s j * v j:=by
      rw [← sum_row]
      exact CR.sumN_congr fun j _ => by unfold addR;rw [updR_same]
    constructor
    · intro h i hi
      by_cases he:i = r
      · subst he
        rw [e2]
        exact Int.dvd_add (h i hi) (Int.dvd_mul_of_dvd_right (h s hs))
      · rw [e1 i he];exact h i hi
    · intro h i hi
      have hss:=h s hs
      rw [e1 s (fun e => hne e.symm)] at hss
      by_cases he:i = r
      · subst he
        have:=h i hi
        rw [e2] at this
        exact (Int.dvd_add_left (Int.dvd_mul_of_dvd_right hss)).1 this
      · have:=h i hi
        rwa [e1 i he] at this
  | col A r s c hr hs hne =>
    unfold solM
    rw [← sV_shift hq s m (fun v => ((c * v r) % (q:Int)).toNat) (solI n m q A) (fun v x => by show ((c * updV v s x r) % (q:Int)).toNat = _;rw [updV_ne _ _ hne]) hs]
    refine sV_congr fun v hv => solI_congr (forall_congr' fun i => imp_congr_right fun hi => ?_)
    rw [sum_upd hs]
    have e3:(CR.sumN m fun j => turnM (addR (turnM A) r s c) i j * v j) = (CR.sumN m fun j => A i j * v j) + (c * A i s) * v r:=by
      rw [← sum_col hr]
      refine CR.sumN_congr fun j _ => ?_
      have e4:turnM (addR (turnM A) r s c) i j = if j = r then A i j + c * A i s else A i j:=by
        show addR (turnM A) r s c j i = _
        unfold addR updR turnM
        split
        · next h => rw [h]
        · rfl
      rw [e4]
    rw [e3]
    have hy:∃ t:Int,((((v s).toNat + ((c * v r) % (q:Int)).toNat) % q:Nat):Int) - v s = c * v r + (q:Int) * t:=by
      have h0:=hv s
      have h1:=Int.emod_nonneg (c * v r) (show (q:Int) ≠ 0 by omega)
      have h2:((((v s).toNat + ((c * v r) % (q:Int)).toNat) % q:Nat):Int) = (v s + (c * v r) % (q:Int)) % (q:Int):=by
        rw [Int.natCast_emod,Int.natCast_add,Int.toNat_of_nonneg h0,Int.toNat_of_nonneg h1]
      have h3:=Int.mul_ediv_add_emod (v s + (c * v r) % (q:Int)) q
      have h4:=Int.mul_ediv_add_emod (c * v r) q
      refine ⟨-((v s + (c * v r) % (q:Int)) / q) - (c * v r) / q,?_⟩
      rw [h2,Int.mul_sub,Int.mul_neg]
      omega
    obtain ⟨t,ht⟩:=hy
    rw [ht,show A i s * (c * v r + (q:Int) * t) = c * A i s * v r + (q:Int) * (A i s * t) by grind,← Int.add_assoc]
    exact Int.dvd_add_left (Int.dvd_mul_right _ _)
  | trans _ _ h1 h2 => exact h1.trans h2

/-! ### a diagonal matrix -/
def pN:Nat → (Nat → Nat) → Nat
  | 0,_ => 1
  | k + 1,f => pN k f * f k
theorem pN_congr {f g:Nat → Nat}:∀ {k:Nat},(∀ i,i < k → f i = g i) → pN k f = pN k g
  | 0,_ => rfl
  | k + 1,h => by show pN k f * f k = pN k g * g k;rw [pN_congr fun i hi => h i (by omega),h k (by omega)]
theorem pN_ind (c:Nat → Prop) [DecidablePred c]:∀ k,pN k (fun i => if c i then 1 else 0) = if ∀ i,i < k → c i then 1 else 0
  | 0 => by rw [if_pos fun i hi => absurd hi (by omega)];rfl
  | k + 1 => by
    show pN k (fun i => if c i then 1 else 0) * (if c k then 1 else 0) = _
    rw [pN_ind c k]
    by_cases h1:∀ i,i < k → c i
    · by_cases h2:c k
      · rw [if_pos h1,if_pos h2,if_pos fun i hi => (by rcases Nat.lt_or_eq_of_le (Nat.lt_succ_iff.1 hi) with h | h;exact h1 i h;exact h ▸ h2)]
      · rw [if_pos h1,if_neg h2,if_neg fun h => h2 (h k (by omega))]
    · rw [if_neg h1,Nat.zero_mul,if_neg fun h => h1 fun i hi => h i (by omega)]
theorem sV_prod {q:Nat} (h:Nat → Int → Nat):∀ k,sV q k (fun v => pN k fun i => h i (v i)) = pN k fun i => sN q fun x => h i x
  | 0 => rfl
  | k + 1 => by
    show sN q (fun x => sV q k fun v => pN k (fun i => h i (updV v k x i)) * h k (updV v k x k)) = pN k (fun i => sN q fun x => h i x) * sN q fun x => h k x
    rw [← sV_prod h k,← sN_mul']
    refine sN_congr fun x _ => ?_
    rw [← sV_mul]
    refine sV_congr fun v _ => ?_
    rw [updV_same]
    congr 1
    exact pN_congr fun i hi => by rw [updV_ne v _ (by omega)]
theorem sum_diag {m i:Nat} (s v:Nat → Int):(CR.sumN m fun j => diagM s i j * v j) = if i < m then s i * v i else 0:=by
  by_cases h:i < m
  · rw [if_pos h,CR.sumN_single (R:=Int) (f:=fun j => diagM s i j * v j) h fun j _ hne => by unfold diagM;rw [if_neg (fun e => hne e.symm)];simp]
    unfold diagM
    rw [if_pos rfl]
  · rw [if_neg h]
    exact CR.sumN_none fun j hj => by unfold diagM;rw [if_neg (by omega)];simp
def chN (n q:Nat) (s:Nat → Int) (i:Nat):Nat:=if i < n then Int.gcd (s i) q else q
theorem gcd_table:∀ q:Nat,q < 14 → ∀ r:Nat,r < q → sN q (fun x => if r * x % q = 0 then 1 else 0) = Nat.gcd r q:=by decide +kernel
theorem gcd_count {q:Nat} (hq:0 < q) (h13:q ≤ 13) (s:Int):sN q (fun x => if (q:Int) ∣ s * (x:Int) then 1 else 0) = Int.gcd s q:=by
  have h0:=Int.emod_nonneg s (show (q:Int) ≠ 0 by omega)
  have h1:=Int.emod_lt_of_pos s (show (0:Int) < q by omega)
  obtain ⟨r,hr⟩:∃ r:Nat,s % (q:Int) = r:=⟨(s % q).toNat,by omega⟩
  have hd:=Int.mul_ediv_add_emod s q
  have h2:Int.gcd s q = Nat.gcd r q:=by
    rw [← Int.gcd_natCast_natCast,← hr]
    conv => lhs;rw [← hd,Int.add_comm]
    exact Int.gcd_add_mul_left_left _ _ _
  rw [h2,← gcd_table q (by omega) r (by omega)]
  refine sN_congr fun x _ => ?_
  have h3:(q:Int) ∣ s * (x:Int) ↔ r * x % q = 0:=by
    rw [← hd,hr,Int.add_mul,Int.mul_assoc,Int.dvd_add_right (Int.dvd_mul_right _ _),← Int.natCast_mul,Int.natCast_dvd_natCast]
    exact ⟨Nat.mod_eq_zero_of_dvd,Nat.dvd_of_mod_eq_zero⟩
  simp only [h3]
theorem sN_one:∀ n,sN n (fun _ => 1) = n
  | 0 => rfl
  | n + 1 => by show sN n _ + 1 = n + 1;rw [sN_one n]
theorem diag_sol {n m q:Nat} (hq:0 < q) (h13:q ≤ 13) (s:Nat → Int):solM n m q (diagM s) = pN m (chN n q s):=by
  unfold solM
  have h:∀ v:Nat → Int,solI n m q (diagM s) v = pN m fun i => if i < n → (q:Int) ∣ s i * v i then 1 else 0:=fun v => by
    rw [pN_ind]
    unfold solI
    have e:(∀ i,i < n → (q:Int) ∣ CR.sumN m fun j => diagM s i j * v j) ↔ ∀ i,i < m → i < n → (q:Int) ∣ s i * v i:=by
      simp only [sum_diag]
      constructor
      · intro h i hm hn
        have:=h i hn
        rwa [if_pos hm] at this
      · intro h i hn
        split
        · next hm => exact h i hm hn
        · exact Int.dvd_zero _
    simp only [e]
  rw [sV_congr fun v _ => h v,sV_prod fun i x => if i < n → (q:Int) ∣ s i * x then 1 else 0]
  refine pN_congr fun i _ => ?_
  unfold chN
  by_cases hi:i < n
  · rw [if_pos hi,← gcd_count hq h13]
    exact sN_congr fun x _ => by simp only [hi,forall_const]
  · rw [if_neg hi]
    refine (sN_congr fun x _ => ?_).trans (sN_one q)
    rw [if_pos fun h => absurd h hi]
theorem solN_smith {xss:List (List Int)} {m q:Nat} (hq:0 < q) (h13:q ≤ 13) (hm:∀ i,i < xss.length → (xss.getD i []).length = m) {s:Nat → Int} (h:El xss.length m (matF xss) (diagM s)):solN xss m q = pN m (chN xss.length q s):=by
  rw [solN_solM hq hm,h.sol hq,diag_sol hq h13]
theorem pN_le {f:Nat → Nat} {b:Nat}:∀ {k:Nat},(∀ i,i < k → f i ≤ b) → pN k f ≤ b ^ k
  | 0,_ => Nat.le_refl _
  | k + 1,h => by
    show pN k f * f k ≤ _
    rw [Nat.pow_succ]
    exact Nat.mul_le_mul (pN_le fun i hi => h i (by omega)) (h k (by omega))
theorem chN_le {n q:Nat} (hq:0 < q) (s:Nat → Int) (i:Nat):chN n q s i ≤ q:=by
  unfold chN
  split
  · exact Nat.le_of_dvd hq (by have:=Int.gcd_dvd_right (a:=s i) (b:=(q:Int));exact Int.natCast_dvd_natCast.1 this)
  · exact Nat.le_refl _
end Go.Proofs.YtndgffiihbdppaaGreatDoor
namespace Go.Proofs.YtndgffiihbdppaaGreatDoor
set_option linter.unusedVariables false
set_option linter.unusedSimpArgs false
open CR

def kL (x:Int):Mtx Int:=fun r c =>
  if r + 1 = x.natAbs then (if 0 < x then (if c = r then 2 else if c = r + 1 then -1 else 0) else (if c = r + 1 then 1 else 0))
  else if r = x.natAbs then (if 0 < x then (if c + 1 = r then 1 else 0) else (if c + 1 = r then -1 else if c = r then 2 else 0))
  else if r = c then 1 else 0
theorem kL_row {x:Int} {n r:Nat} (h0:x ≠ 0) (h1:x.natAbs < n) (hr:r < n) (v:Nat → Int):sumN n (fun k => kL x r k * v k) =
    if r + 1 = x.natAbs then (if 0 < x then 2 * v r - v (r + 1) else v (r + 1)) else if r = x.natAbs then (if 0 < x then v (r - 1) else 2 * v r - v (r - 1)) else v r:=by
  unfold kL
  by_cases e1:r + 1 = x.natAbs
  · simp only [if_pos e1]
    by_cases hx:0 < x
    · simp only [if_pos hx]
      rw [sumN_two (a:=r) (b:=r + 1) hr (by omega) (by omega) (fun i _ h2 h3 => by rw [if_neg h2,if_neg h3];exact Int.zero_mul _),if_pos rfl,if_neg (by omega),if_pos rfl]
      show 2 * v r + -1 * v (r + 1) = _
      omega
    · simp only [if_neg hx]
      rw [sumN_single (k:=r + 1) (by omega) (fun i _ h2 => by rw [if_neg h2];exact Int.zero_mul _),if_pos rfl]
      exact Int.one_mul _
  · simp only [if_neg e1]
    by_cases e2:r = x.natAbs
    · simp only [if_pos e2]
      by_cases hx:0 < x
      · simp only [if_pos hx]
        rw [sumN_single (k:=r - 1) (by omega) (fun i _ h2 => by rw [if_neg (by omega)];exact Int.zero_mul _),if_pos (by omega)]
        exact Int.one_mul _
      · simp only [if_neg hx]
        rw [sumN_two (a:=r - 1) (b:=r) (by omega) hr (by omega) (fun i _ h2 h3 => by rw [if_neg (by omega),if_neg h3];exact Int.zero_mul _),if_pos (by omega),if_neg (by omega),if_pos rfl]
        show -1 * v (r - 1) + 2 * v r = _
        omega
    · simp only [if_neg e2]
      rw [sumN_single (k:=r) hr (fun i _ h2 => by rw [if_neg (fun e => h2 e.symm)];exact Int.zero_mul _),if_pos rfl]
      exact Int.one_mul _
def kM (n:Nat):List Int → Mtx Int
  | [] => oneM
  | x :: w => mulM n (kM n w) (kL x)
theorem dvd_sumN {m:Int} {f:Nat → Int}:∀ {n:Nat},(∀ i,i < n → m ∣ f i) → m ∣ sumN n f
  | 0,_ => Int.dvd_zero m
  | n + 1,h => Int.dvd_add (dvd_sumN fun i hi => h i (by omega)) (h n (by omega))
theorem cSt_lin {m x:Int} {c:List Int} {n:Nat} (hl:c.length = n) (h0:x ≠ 0) (h1:x.natAbs < n) {j:Nat} (hj:j < n):m ∣ (cSt m x c).getD j 0 - sumN n fun k => kL x j k * c.getD k 0:=by
  have e:∀ z:Int,m ∣ z % m - z:=fun z => ⟨-(z / m),by
    have h1:=Int.emod_def z m
    have h2:=Int.mul_neg m (z / m)
    omega⟩
  rw [cSt_getD hl h0 h1 hj,kL_row h0 h1 hj]
  by_cases e1:j + 1 = x.natAbs
  · rw [if_pos e1,if_pos e1]
    split
    · exact e _
    · rw [Int.sub_self];exact Int.dvd_zero m
  · rw [if_neg e1,if_neg e1]
    by_cases e2:j = x.natAbs
    · rw [if_pos e2,if_pos e2]
      split
      · rw [Int.sub_self];exact Int.dvd_zero m
      · exact e _
    · rw [if_neg e2,if_neg e2,Int.sub_self];exact Int.dvd_zero m
theorem sumN_subI (f g:Nat → Int):∀ n,sumN n (fun i => f i - g i) = sumN n f - sumN n g
  | 0 => rfl
  | n + 1 => by
    show sumN n _ + (f n - g n) = sumN n f + f n - (sumN n g + g n)
    rw [sumN_subI f g n]
    omega
theorem cCol_lin {m:Int} {n:Nat}:∀ {w c:List Int},(∀ x ∈ w,x ≠ 0 ∧ x.natAbs < n) → c.length = n → ∀ j,j < n → m ∣ (cCol m w c).getD j 0 - sumN n fun k => kM n w j k * c.getD k 0
  | [],c,_,_,j,hj => by
    show m ∣ c.getD j 0 - sumN n fun k => oneM j k * c.getD k 0
    rw [sumN_single (k:=j) hj (fun i _ h2 => by
      show (if j = i then (1:Int) else 0) * _ = 0
      rw [if_neg (fun e => h2 e.symm)];exact Int.zero_mul _)]
    have e:(oneM j j:Int) = 1:=if_pos rfl
    rw [e,Int.one_mul,Int.sub_self]
    exact Int.dvd_zero m
  | x :: w,c,hw,hl,j,hj => by
    have hx:=hw x (by simp)
    have h1:=cCol_lin (m:=m) (w:=w) (c:=cSt m x c) (fun y hy => hw y (by simp [hy])) (by rw [cSt_length];exact hl) j hj
    have h2:m ∣ sumN n fun k => kM n w j k * ((cSt m x c).getD k 0 - sumN n fun l => kL x k l * c.getD l 0):=dvd_sumN fun i hi => Int.dvd_mul_of_dvd_right (cSt_lin hl hx.1 hx.2 hi)
    have e3:(sumN n fun k => kM n w j k * sumN n fun l => kL x k l * c.getD l 0) = sumN n fun k => kM n (x :: w) j k * c.getD k 0:=by
      show _ = sumN n fun k => (sumN n fun l => kM n w j l * kL x l k) * c.getD k 0
      have e4:(sumN n fun k => (sumN n fun l => kM n w j l * kL x l k) * c.getD k 0) = sumN n fun k => sumN n fun l => kM n w j l * kL x l k * c.getD k 0:=sumN_congr fun i _ => by
        rw [Int.mul_comm]
        rw [show c.getD i 0 * (sumN n fun l => kM n w j l * kL x l i) = sumN n fun l => c.getD i 0 * (kM n w j l * kL x l i) from (sumN_mul _ _ _).symm]
        exact sumN_congr fun l _ => Int.mul_comm _ _
      rw [e4,sumN_swap]
      exact sumN_congr fun i _ => by
        rw [show kM n w j i * (sumN n fun l => kL x i l * c.getD l 0) = sumN n fun l => kM n w j i * (kL x i l * c.getD l 0) from (sumN_mul _ _ _).symm]
        exact sumN_congr fun l _ => (Int.mul_assoc _ _ _).symm
    have e5:(sumN n fun k => kM n w j k * ((cSt m x c).getD k 0 - sumN n fun l => kL x k l * c.getD l 0)) = (sumN n fun k => kM n w j k * (cSt m x c).getD k 0) - sumN n fun k => kM n (x :: w) j k * c.getD k 0:=by
      rw [← e3,← sumN_subI]
      exact sumN_congr fun i _ => Int.mul_sub _ _ _
    rw [e5] at h2
    have h6:=Int.dvd_add h1 h2
    show m ∣ (cCol m w (cSt m x c)).getD j 0 - _
    rw [show (cCol m w (cSt m x c)).getD j 0 - (sumN n fun k => kM n (x :: w) j k * c.getD k 0) = (cCol m w (cSt m x c)).getD j 0 - (sumN n fun k => kM n w j k * (cSt m x c).getD k 0) + ((sumN n fun k => kM n w j k * (cSt m x c).getD k 0) - sumN n fun k => kM n (x :: w) j k * c.getD k 0) by omega]
    exact h6
def cEq (n:Nat) (w:List Int):List (List Int):=(List.range n).map fun i => (List.range n).map fun j => kM n w i j - oneM i j
theorem fix_iff {m:Nat} {n:Nat} {w:List Int} (hm:1 ≤ m) (hw:∀ x ∈ w,x ≠ 0 ∧ x.natAbs < n) (t:Nat):cCol m w (digs m n t) = digs m n t ↔ solB (cEq n w) m t = true:=by
  have hc:=digs_isC (n:=n) hm t
  have hf:=hc.word hw
  have hd:∀ k,k < n → (digs m n t).getD k 0 = digI m t k:=fun k hk => by simp [digs,digI,List.getD,hk]
  have key:∀ j,j < n → ((cCol m w (digs m n t)).getD j 0 = (digs m n t).getD j 0 ↔ (m:Int) ∣ sumN n fun k => (kM n w j k - oneM j k) * digI m t k):=fun j hj => by
    have h1:=cCol_lin (m:=m) hw hc.len j hj
    have h2:=hf.col j hj
    have h3:=hc.col j hj
    have e:(sumN n fun k => (kM n w j k - oneM j k) * digI m t k) = (sumN n fun k => kM n w j k * (digs m n t).getD k 0) - (digs m n t).getD j 0:=by
      have e2:(sumN n fun k => (oneM j k:Int) * (digs m n t).getD k 0) = (digs m n t).getD j 0:=by
        rw [sumN_single (k:=j) hj (fun i _ h2 => by
          show (if j = i then (1:Int) else 0) * _ = 0
          rw [if_neg (fun e => h2 e.symm)];exact Int.zero_mul _)]
        have e:(oneM j j:Int) = 1:=if_pos rfl
        rw [e,Int.one_mul]
      rw [← e2,← sumN_subI]
      exact sumN_congr fun i hi => by rw [hd i hi];exact Int.sub_mul _ _ _
    rw [e]
    generalize (cCol (m:Int) w (digs m n t)).getD j 0 = a at *
    generalize (digs m n t).getD j 0 = b at *
    generalize (sumN n fun k => kM n w j k * (digs m n t).getD k 0) = s at *
    refine ⟨fun h => ?_,fun h => ?_⟩
    · subst h
      have:=Int.dvd_neg.2 h1
      rwa [Int.neg_sub] at this
    · have h4:=Int.dvd_add h1 h
      rw [show a - s + (s - b) = a - b by omega] at h4
      obtain ⟨q,hq⟩:=h4
      have hq0:q = 0:=by
        rcases Int.lt_trichotomy q 0 with h | h | h
        · have:=Int.mul_le_mul_of_nonneg_left (show q ≤ -1 by omega) (show (0:Int) ≤ m by omega)
          omega
        · exact h
        · have:=Int.mul_le_mul_of_nonneg_left (show 1 ≤ q by omega) (show (0:Int) ≤ m by omega)
          omega
      rw [hq0,Int.mul_zero] at hq
      omega
  have hs:solB (cEq n w) m t = true ↔ ∀ j,j < n → (m:Int) ∣ sumN n fun k => (kM n w j k - oneM j k) * digI m t k:=by
    unfold solB cEq
    rw [List.all_eq_true]
    have hr:∀ j,j < n → ((dotI ((List.range n).map fun k => kM n w j k - oneM j k) (digI m t) % (m:Int) == 0) = true ↔ (m:Int) ∣ sumN n fun k => (kM n w j k - oneM j k) * digI m t k):=fun j hj => by
      have e:dotI ((List.range n).map fun k => kM n w j k - oneM j k) (digI m t) = sumN n fun k => (kM n w j k - oneM j k) * digI m t k:=by
        unfold dotI
        rw [List.length_map,List.length_range]
        exact sumN_congr fun i hi => by simp [List.getD,hi]
      rw [e,beq_iff_eq]
      exact ⟨Int.dvd_of_emod_eq_zero,Int.emod_eq_zero_of_dvd⟩
    refine ⟨fun h j hj => (hr j hj).1 (h _ (List.mem_map.2 ⟨j,List.mem_range.2 hj,rfl⟩)),fun h r hr2 => ?_⟩
    obtain ⟨j,hj,rfl⟩:=List.mem_map.1 hr2
    exact (hr j (List.mem_range.1 hj)).2 (h j (List.mem_range.1 hj))
  rw [hs]
  refine ⟨fun h j hj => (key j hj).1 (by rw [h]),fun h => list_extI (by rw [hf.len,hc.len]) fun j hj => (key j (by rw [hf.len] at hj;exact hj)).2 (h j (by rw [hf.len] at hj;exact hj))⟩
theorem cntC_solN {m n:Nat} {w:List Int} (hm:1 ≤ m) (hw:∀ x ∈ w,x ≠ 0 ∧ x.natAbs < n):cntC n m w = solN (cEq n w) n m:=by
  unfold cntC solN
  refine List.countP_congr fun t _ => ?_
  rw [decide_eq_true_iff]
  exact fix_iff hm hw t
end Go.Proofs.YtndgffiihbdppaaGreatDoor
namespace Go.Proofs.YtndgffiihbdppaaGreatDoor
set_option linter.unusedVariables false
set_option linter.unusedSimpArgs false

def prtL (a:List Nat):List (List Nat):=((List.range a.length).filter fun i => isMin a i).map fun i => (List.range a.length).filter fun j => decide (j ∈ cyc a i)
def repS (a:List Nat) (s:Nat):Nat:=srch (fun p => isMin a p && decide (p ∈ cyc a s)) a.length 0
theorem isMin_iff {a:List Nat} {i:Nat}:isMin a i = true ↔ ∀ x ∈ cyc a i,i ≤ x:=by unfold isMin;exact decide_eq_true_iff
theorem repS_spec {a:List Nat} (h:isP a) {s:Nat} (hs:s < a.length):repS a s < a.length ∧ repS a s ∈ cyc a s ∧ isMin a (repS a s) = true:=by
  obtain ⟨m,h1,h2,h3⟩:=min_ex h hs
  obtain ⟨k1,k2,k3,_⟩:=srch_spec (fun p => isMin a p && decide (p ∈ cyc a s)) a.length 0 ⟨m,Nat.zero_le _,by omega,by rw [h3,decide_eq_true h2];rfl⟩
  rw [Bool.and_eq_true,decide_eq_true_iff] at k3
  exact ⟨by unfold repS;omega,k3.2,k3.1⟩
theorem repS_le {a:List Nat} (h:isP a) {s:Nat} (hs:s < a.length):repS a s ≤ s:=by
  obtain ⟨h1,h2,h3⟩:=repS_spec h hs
  exact isMin_iff.1 h3 s (cyc_symm h hs h2)
theorem repS_min {a:List Nat} (h:isP a) {s:Nat} (hs:s < a.length):repS a s = s ↔ isMin a s = true:=by
  obtain ⟨h1,h2,h3⟩:=repS_spec h hs
  refine ⟨fun e => by rw [e] at h3;exact h3,fun hm => ?_⟩
  have:=isMin_iff.1 hm _ h2
  have:=repS_le h hs
  omega
/-! ### colors modulo 2 -/
end Go.Proofs.YtndgffiihbdppaaGreatDoor
namespace Go.Proofs.YtndgffiihbdppaaGreatDoor
set_option linter.unusedVariables false
set_option linter.unusedSimpArgs false

theorem endE_inj {w:List Int} (h:∀ x ∈ w,x ≠ 0) {s t:Nat} (e:endE w s = endE w t):s = t:=by
  have h1:=endE_inv w h s
  have h2:=endE_inv w h t
  rw [endE_append] at h1 h2
  rw [← h1,e,h2]
theorem ends_isP {n:Nat} {w:List Int} (h:okB n w):isP (endsL n w):=by
  refine ⟨fun x hx => ?_,?_⟩
  · rw [endsL_length]
    obtain ⟨s,hs,rfl⟩:=List.mem_map.1 hx
    exact endE_lt h (List.mem_range.1 hs)
  · unfold endsL
    rw [List.nodup_iff_pairwise_ne,List.pairwise_map]
    exact List.nodup_range.imp fun hne e => hne (endE_inj (fun x hx => (h x hx).1) e)
end Go.Proofs.YtndgffiihbdppaaGreatDoor
namespace Go.Proofs.YtndgffiihbdppaaGreatDoor
set_option linter.unusedVariables false
set_option linter.unusedSimpArgs false
open Go.RowKit

def lkAt (a:List Nat) (s:Nat):Nat:=(prtL a).findIdx fun c => decide (s ∈ c)
def lkS (n:Nat) (w:List Int) (p:Nat):Nat:=(endsL n w).idxOf p
def lkSum (n:Nat) (a:List Nat) (i k:Nat):List Int → List Int → Int
  | _,[] => 0
  | u,x :: w =>
    let s:=lkAt a (lkS n u (x.natAbs - 1))
    let t:=lkAt a (lkS n u x.natAbs)
    ((if s = i ∧ t = k then x.sign else 0) + (if t = i ∧ s = k then x.sign else 0)) + lkSum n a i k (u ++ [x]) w
def lkM (n:Int) (w:List Int):List (List Int):=
  if bfault n w = 0 then (List.range (prtL (endsL n.toNat w)).length).map fun i => (List.range (prtL (endsL n.toNat w)).length).map fun k => (lkSum n.toNat (endsL n.toNat w) i k [] w).tdiv 2 else []
def GivesLK (w:World) (err:Int) (xss:List (List Int)) (e:Ending) (w':World):Prop:=
  ∃ A n c,e = .returned (.tuple #[.slice A n c,.int .i64 err]) ∧ SLL w' A n c xss ∧ Below w.heap.size w w'
structure LinkC:Prop where
  link : ∀ (m : Int) (A : Option Addr) (n c : Nat) (xs : List Int) (w : World), SL w A n c xs → (Lit.int .i64 m).wf = true → Calls Tryz.prog 9 #[.int .i64 m, .slice A n c] w (GivesLK w (bfault m xs) (lkM m xs)) -- 9
theorem prtL_le (a:List Nat):(prtL a).length ≤ a.length:=by
  unfold prtL
  rw [List.length_map]
  refine Nat.le_trans (List.length_filter_le _ _) (by rw [List.length_range];exact Nat.le_refl _)
end Go.Proofs.YtndgffiihbdppaaGreatDoor
namespace Go.Proofs.YtndgffiihbdppaaGreatDoor
set_option linter.unusedVariables false
set_option linter.unusedSimpArgs false
open Go.RowKit

def colE (n:Int) (xs:List Int) (k:Int):Int:=if bfault n xs ≠ 0 then bfault n xs else if k < 1 ∨ 13 < k then 1 else 0
def colV (n:Int) (xs:List Int) (k:Int):Int:=if colE n xs k = 0 then (cntC n.toNat k.toNat xs:Int) else 0
structure ColC:Prop where
  count:∀ (m:Int) (A:Option Addr) (n c:Nat) (xs:List Int) (k:Int) (w:World),SL w A n c xs → TabW w → (Lit.int .i64 m).wf = true → (Lit.int .i64 k).wf = true → Calls Tryz.prog 8 #[.int .i64 m,.slice A n c,.int .i64 k] w fun e w' => e = .returned (.tuple #[.int .i64 (colV m xs k),.int .i64 (colE m xs k)]) ∧ Below w.heap.size w w'
theorem colE_ok {n k:Nat} {xs:List Int} (h1:1 ≤ n) (h6:n ≤ 6) (hx:okB n xs) (hl:xs.length ≤ 30) (hk1:1 ≤ k) (hk:k ≤ 13):colE (n:Int) xs (k:Int) = 0:=by
  unfold colE
  rw [bfault_ok (by omega) (by omega) hl fun x h => by have:=hx x h;omega,if_neg (by simp),if_neg (by omega)]
theorem colV_ok {n k:Nat} {xs:List Int} (h1:1 ≤ n) (h6:n ≤ 6) (hx:okB n xs) (hl:xs.length ≤ 30) (hk1:1 ≤ k) (hk:k ≤ 13):colV (n:Int) xs (k:Int) = cntC n k xs:=by
  unfold colV
  rw [if_pos (colE_ok h1 h6 hx hl hk1 hk),Int.toNat_natCast,Int.toNat_natCast]
theorem col_111:colE 2 [1,1,1] 3 = 0 ∧ colV 2 [1,1,1] 3 = 9:=by decide +kernel
end Go.Proofs.YtndgffiihbdppaaGreatDoor
