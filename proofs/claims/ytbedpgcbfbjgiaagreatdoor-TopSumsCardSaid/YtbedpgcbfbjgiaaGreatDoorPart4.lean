/- Several texts in one. -/
import Derived.Test.YtbedpgcbfbjgiaaGreatDoorPart3
import Derived.Test.YtbedpgcbfbjgiaaGreatDoorBase1
import Derived.Test.YtbedpgcbfbjgiaaGreatDoorPart2
import Derived.Test.YtbedpgcbfbjgiaaGreatDoorPart1
namespace Go.Proofs.YtbedpgcbfbjgiaaGreatDoor
set_option linter.unusedVariables false
set_option linter.unusedSimpArgs false
open Go.RowKit

def updV (v:Nat → Int) (k:Nat) (x:Int):Nat → Int:=fun i => if i = k then x else v i
def sV (q:Nat):Nat → ((Nat → Int) → Nat) → Nat
  | 0,F => F fun _ => 0
  | k + 1,F => sN q fun x => sV q k fun v => F (updV v k x)
theorem updV_same (v:Nat → Int) (k:Nat) (x:Int):updV v k x k = x:=by simp [updV]
theorem updV_ne (v:Nat → Int) {k i:Nat} (x:Int) (h:i ≠ k):updV v k x i = v i:=by simp [updV,h]
theorem updV_updV (v:Nat → Int) (k:Nat) (x y:Int):updV (updV v k x) k y = updV v k y:=by funext i;unfold updV;split <;> rfl
theorem updV_comm (v:Nat → Int) {k s:Nat} (x y:Int) (h:k ≠ s):updV (updV v k x) s y = updV (updV v s y) k x:=by
  funext i
  unfold updV
  grind
theorem updV_pos {v:Nat → Int} (h:∀ j,0 ≤ v j) (k x:Nat):∀ j,0 ≤ updV v k x j:=fun j => by
  unfold updV
  split
  · omega
  · exact h j
theorem sV_congr {q:Nat}:∀ {k:Nat} {F G:(Nat → Int) → Nat},(∀ v,(∀ j,0 ≤ v j) → F v = G v) → sV q k F = sV q k G
  | 0,F,G,h => h _ fun _ => Int.le_refl _
  | k + 1,F,G,h => sN_congr fun x _ => sV_congr fun v hv => h _ (updV_pos hv k x)
theorem sN_add (f g:Nat → Nat):∀ n,sN n (fun i => f i + g i) = sN n f + sN n g
  | 0 => rfl
  | n + 1 => by show sN n _ + _ = _;rw [sN_add f g n];show sN n f + sN n g + (f n + g n) = (sN n f + f n) + (sN n g + g n);omega
theorem sN_mul (c:Nat) (f:Nat → Nat):∀ n,sN n (fun i => f i * c) = sN n f * c
  | 0 => by show 0 = 0 * c;rw [Nat.zero_mul]
  | n + 1 => by show sN n _ + _ = _;rw [sN_mul c f n];show _ = (sN n f + f n) * c;rw [Nat.add_mul]
theorem sN_mul' (c:Nat) (f:Nat → Nat) (n:Nat):sN n (fun i => c * f i) = c * sN n f:=by
  rw [Nat.mul_comm,← sN_mul]
  exact sN_congr fun i _ => Nat.mul_comm _ _
theorem sN_zero0:∀ n,sN n (fun _ => 0) = 0
  | 0 => rfl
  | n + 1 => by show sN n _ + 0 = 0;rw [sN_zero0 n]
theorem sN_swap (f:Nat → Nat → Nat) (m:Nat):∀ n,sN n (fun i => sN m fun j => f i j) = sN m fun j => sN n fun i => f i j
  | 0 => (sN_zero0 m).symm
  | n + 1 => by
    show sN n _ + _ = _
    rw [sN_swap f m n,← sN_add]
    rfl
theorem sN_sV {q n:Nat}:∀ {k:Nat} (F:Nat → (Nat → Int) → Nat),sN n (fun x => sV q k (F x)) = sV q k fun v => sN n fun x => F x v
  | 0,F => rfl
  | k + 1,F => by
    show sN n (fun x => sN q fun y => sV q k fun v => F x (updV v k y)) = sN q fun y => sV q k fun v => sN n fun x => F x (updV v k y)
    rw [sN_swap]
    exact sN_congr fun y _ => sN_sV fun x v => F x (updV v k y)
theorem sV_mul {q c:Nat}:∀ {k:Nat} (F:(Nat → Int) → Nat),sV q k (fun v => F v * c) = sV q k F * c
  | 0,F => rfl
  | k + 1,F => by
    show sN q _ = sN q _ * c
    rw [← sN_mul]
    exact sN_congr fun x _ => sV_mul fun v => F (updV v k x)
theorem sN_front (f:Nat → Nat):∀ n,sN (n + 1) f = f 0 + sN n fun i => f (i + 1)
  | 0 => by show 0 + f 0 = f 0 + 0;omega
  | n + 1 => by
    show sN (n + 1) f + f (n + 1) = f 0 + (sN n (fun i => f (i + 1)) + f (n + 1))
    rw [sN_front f n];omega
theorem sN_rot1 {q:Nat} (hq:0 < q) (f:Nat → Nat):sN q (fun x => f ((x + 1) % q)) = sN q f:=by
  obtain ⟨p,rfl⟩:∃ p,q = p + 1:=⟨q - 1,by omega⟩
  rw [sN_front f]
  show sN p (fun x => f ((x + 1) % (p + 1))) + f ((p + 1) % (p + 1)) = _
  rw [Nat.mod_self,Nat.add_comm]
  congr 1
  exact sN_congr fun i hi => by rw [Nat.mod_eq_of_lt (by omega)]
theorem sN_rot {q:Nat} (hq:0 < q):∀ (c:Nat) (f:Nat → Nat),sN q (fun x => f ((x + c) % q)) = sN q f
  | 0,f => sN_congr fun i hi => by rw [Nat.add_zero,Nat.mod_eq_of_lt hi]
  | c + 1,f => by
    rw [← sN_rot1 hq f,← sN_rot hq c fun y => f ((y + 1) % q)]
    refine sN_congr fun i _ => ?_
    rw [show i + (c + 1) = i + c + 1 by omega,Nat.mod_add_mod]
theorem sV_shift {q:Nat} (hq:0 < q) (s:Nat):∀ (k:Nat) (σ:(Nat → Int) → Nat) (F:(Nat → Int) → Nat),(∀ v x,σ (updV v s x) = σ v) → s < k → sV q k (fun v => F (updV v s ((((v s).toNat + σ v) % q:Nat):Int))) = sV q k F
  | 0,σ,F,_,h => absurd h (by omega)
  | k + 1,σ,F,hσ,h => by
    by_cases hs:s = k
    · subst hs
      show sN q (fun x => sV q s fun v => F (updV (updV v s x) s ((((updV v s x s).toNat + σ (updV v s x)) % q:Nat):Int))) = sN q fun x => sV q s fun v => F (updV v s x)
      rw [sN_sV,sN_sV]
      refine sV_congr fun v _ => ?_
      rw [← sN_rot hq (σ v) fun y => F (updV v s y)]
      refine sN_congr fun x _ => ?_
      rw [updV_updV,updV_same,hσ,Int.toNat_natCast]
    · show sN q (fun x => sV q k fun v => F (updV (updV v k x) s ((((updV v k x s).toNat + σ (updV v k x)) % q:Nat):Int))) = sN q fun x => sV q k fun v => F (updV v k x)
      refine sN_congr fun x _ => ?_
      rw [← sV_shift hq s k (fun v => σ (updV v k x)) (fun v => F (updV v k x)) (fun v y => by
        show σ (updV (updV v s y) k x) = σ (updV v k x)
        rw [updV_comm v y x hs,hσ]) (by omega)]
      refine sV_congr fun v _ => ?_
      rw [updV_ne v _ hs,updV_comm v _ _ (fun e => hs e.symm)]

def solI (n m q:Nat) (A:Mtx Int) (v:Nat → Int):Nat:=if ∀ i,i < n → (q:Int) ∣ CR.sumN m fun j => A i j * v j then 1 else 0
def solM (n m q:Nat) (A:Mtx Int):Nat:=sV q m (solI n m q A)
theorem solI_congr {n m q:Nat} {A B:Mtx Int} {v u:Nat → Int} (h:(∀ i,i < n → (q:Int) ∣ CR.sumN m fun j => A i j * v j) ↔ ∀ i,i < n → (q:Int) ∣ CR.sumN m fun j => B i j * u j):solI n m q A v = solI n m q B u:=by
  unfold solI
  simp only [h]
theorem cntS_sV (xss:List (List Int)) (q:Nat):∀ (k:Nat) (c:Nat → Int),cntS xss q k c = sV q k fun v => if ∀ i,i < xss.length → (c i + CR.sumN k fun j => matF xss i j * v j) % (q:Int) = 0 then 1 else 0
  | 0,c => by
    unfold cntS sV
    simp only [CR.sumN_zero]
    simp
  | k + 1,c => by
    unfold cntS sV
    refine sN_congr fun x _ => ?_
    rw [cntS_sV xss q k]
    refine sV_congr fun v _ => ?_
    have h:∀ i,c i + (x:Int) * matF xss i k + (CR.sumN k fun j => matF xss i j * v j) = c i + CR.sumN (k + 1) fun j => matF xss i j * updV v k x j:=fun i => by
      rw [CR.sumN_succ,updV_same]
      rw [CR.sumN_congr (f:=fun j => matF xss i j * updV v k x j) (g:=fun j => matF xss i j * v j) fun j hj => by rw [updV_ne v _ (by omega)]]
      rw [Int.mul_comm (x:Int)]
      omega
    simp only [h]
theorem solN_solM {xss:List (List Int)} {m q:Nat} (hq:0 < q) (hm:∀ i,i < xss.length → (xss.getD i []).length = m):solN xss m q = solM xss.length m q (matF xss):=by
  rw [solN_cnt hq hm,cntS_sV]
  refine sV_congr fun v _ => ?_
  unfold solI
  have h:(∀ i,i < xss.length → (0 + CR.sumN m fun j => matF xss i j * v j) % (q:Int) = 0) ↔ ∀ i,i < xss.length → (q:Int) ∣ CR.sumN m fun j => matF xss i j * v j:=
    forall_congr' fun i => imp_congr_right fun _ => by rw [Int.zero_add];exact ⟨Int.dvd_of_emod_eq_zero,Int.emod_eq_zero_of_dvd⟩
  simp only [h]

theorem sum_row (m:Nat) (a b v:Nat → Int) (d:Int):(CR.sumN m fun j => (a j + d * b j) * v j) = (CR.sumN m fun j => a j * v j) + d * CR.sumN m fun j => b j * v j:=by
  have h2:=CR.sumN_mul d (fun j => b j * v j) m
  rw [← show (CR.sumN m fun j => d * (b j * v j)) = _ from h2,← show (CR.sumN m fun j => a j * v j + d * (b j * v j)) = _ from CR.sumN_add _ _ m]
  exact CR.sumN_congr fun j _ => by grind
theorem sum_upd {m s:Nat} (hs:s < m) (a v:Nat → Int) (y:Int):(CR.sumN m fun j => a j * updV v s y j) = (CR.sumN m fun j => a j * v j) + a s * (y - v s):=by
  have h1:(CR.sumN m fun j => if j = s then a s * (y - v s) else 0) = a s * (y - v s):=by
    have h:=CR.sumN_single (R:=Int) (f:=fun j => if j = s then a s * (y - v s) else 0) hs fun i _ hne => by simp [hne]
    simpa using h
  conv => rhs;rw [← h1]
  rw [← show (CR.sumN m fun j => a j * v j + if j = s then a s * (y - v s) else 0) = _ from CR.sumN_add _ _ m]
  refine CR.sumN_congr fun j _ => ?_
  unfold updV
  grind
theorem sum_col {m r:Nat} (hr:r < m) (a v:Nat → Int) (e:Int):(CR.sumN m fun j => (if j = r then a j + e else a j) * v j) = (CR.sumN m fun j => a j * v j) + e * v r:=by
  have h1:(CR.sumN m fun j => if j = r then e * v r else 0) = e * v r:=by
    have h:=CR.sumN_single (R:=Int) (f:=fun j => if j = r then e * v r else 0) hr fun i _ hne => by simp [hne]
    simpa using h
  conv => rhs;rw [← h1]
  rw [← show (CR.sumN m fun j => a j * v j + if j = r then e * v r else 0) = _ from CR.sumN_add _ _ m]
  refine CR.sumN_congr fun j _ => ?_
  grind

theorem El.sol {n m q:Nat} {A B:Mtx Int} (hq:0 < q) (h:El n m A B):solM n m q A = solM n m q B:=by
  induction h with
  | ext h => exact sV_congr fun v _ => solI_congr (forall_congr' fun i => imp_congr_right fun hi => by rw [CR.sumN_congr fun j hj => by rw [h i hi j hj]])
  | row A r s c hr hs hne =>
    refine sV_congr fun v _ => solI_congr ?_
    have e1:∀ i,i ≠ r → (CR.sumN m fun j => addR A r s c i j * v j) = CR.sumN m fun j => A i j * v j:=fun i hi => CR.sumN_congr fun j _ => by unfold addR;rw [updR_ne _ _ hi]
    have e2:(CR.sumN m fun j => addR A r s c r j * v j) = (CR.sumN m fun j => A r j * v j) + c * CR.sumN m fun j => A s j * v j:=by
      rw [← sum_row]
      exact CR.sumN_congr fun j _ => by unfold addR;rw [updR_same]
    constructor
    · intro h i hi
      by_cases he:i = r
      · subst he
        rw [e2]
        exact Int.dvd_add (h i hi) (Int.dvd_mul_of_dvd_right (h s hs))
      · rw [e1 i he];exact h i hi
    · intro h i hi
      have hss:=h s hs
      rw [e1 s (fun e => hne e.symm)] at hss
      by_cases he:i = r
      · subst he
        have:=h i hi
        rw [e2] at this
        exact (Int.dvd_add_left (Int.dvd_mul_of_dvd_right hss)).1 this
      · have:=h i hi
        rwa [e1 i he] at this
  | col A r s c hr hs hne =>
    unfold solM
    rw [← sV_shift hq s m (fun v => ((c * v r) % (q:Int)).toNat) (solI n m q A) (fun v x => by show ((c * updV v s x r) % (q:Int)).toNat = _;rw [updV_ne _ _ hne]) hs]
    refine sV_congr fun v hv => solI_congr (forall_congr' fun i => imp_congr_right fun hi => ?_)
    rw [sum_upd hs]
    have e3:(CR.sumN m fun j => turnM (addR (turnM A) r s c) i j * v j) = (CR.sumN m fun j => A i j * v j) + (c * A i s) * v r:=by
      rw [← sum_col hr]
      refine CR.sumN_congr fun j _ => ?_
      have e4:turnM (addR (turnM A) r s c) i j = if j = r then A i j + c * A i s else A i j:=by
        show addR (turnM A) r s c j i = _
        unfold addR updR turnM
        split
        · next h => rw [h]
        · rfl
      rw [e4]
    rw [e3]
    have hy:∃ t:Int,((((v s).toNat + ((c * v r) % (q:Int)).toNat) % q:Nat):Int) - v s = c * v r + (q:Int) * t:=by
      have h0:=hv s
      have h1:=Int.emod_nonneg (c * v r) (show (q:Int) ≠ 0 by omega)
      have h2:((((v s).toNat + ((c * v r) % (q:Int)).toNat) % q:Nat):Int) = (v s + (c * v r) % (q:Int)) % (q:Int):=by
        rw [Int.natCast_emod,Int.natCast_add,Int.toNat_of_nonneg h0,Int.toNat_of_nonneg h1]
      have h3:=Int.mul_ediv_add_emod (v s + (c * v r) % (q:Int)) q
      have h4:=Int.mul_ediv_add_emod (c * v r) q
      refine ⟨-((v s + (c * v r) % (q:Int)) / q) - (c * v r) / q,?_⟩
      rw [h2,Int.mul_sub,Int.mul_neg]
      omega
    obtain ⟨t,ht⟩:=hy
    rw [ht,show A i s * (c * v r + (q:Int) * t) = c * A i s * v r + (q:Int) * (A i s * t) by grind,← Int.add_assoc]
    exact Int.dvd_add_left (Int.dvd_mul_right _ _)
  | trans _ _ h1 h2 => exact h1.trans h2

/-! ### a diagonal matrix -/
def pN:Nat → (Nat → Nat) → Nat
  | 0,_ => 1
  | k + 1,f => pN k f * f k
theorem pN_congr {f g:Nat → Nat}:∀ {k:Nat},(∀ i,i < k → f i = g i) → pN k f = pN k g
  | 0,_ => rfl
  | k + 1,h => by show pN k f * f k = pN k g * g k;rw [pN_congr fun i hi => h i (by omega),h k (by omega)]
theorem pN_ind (c:Nat → Prop) [DecidablePred c]:∀ k,pN k (fun i => if c i then 1 else 0) = if ∀ i,i < k → c i then 1 else 0
  | 0 => by rw [if_pos fun i hi => absurd hi (by omega)];rfl
  | k + 1 => by
    show pN k (fun i => if c i then 1 else 0) * (if c k then 1 else 0) = _
    rw [pN_ind c k]
    by_cases h1:∀ i,i < k → c i
    · by_cases h2:c k
      · rw [if_pos h1,if_pos h2,if_pos fun i hi => (by rcases Nat.lt_or_eq_of_le (Nat.lt_succ_iff.1 hi) with h | h;exact h1 i h;exact h ▸ h2)]
      · rw [if_pos h1,if_neg h2,if_neg fun h => h2 (h k (by omega))]
    · rw [if_neg h1,Nat.zero_mul,if_neg fun h => h1 fun i hi => h i (by omega)]
theorem sV_prod {q:Nat} (h:Nat → Int → Nat):∀ k,sV q k (fun v => pN k fun i => h i (v i)) = pN k fun i => sN q fun x => h i x
  | 0 => rfl
  | k + 1 => by
    show sN q (fun x => sV q k fun v => pN k (fun i => h i (updV v k x i)) * h k (updV v k x k)) = pN k (fun i => sN q fun x => h i x) * sN q fun x => h k x
    rw [← sV_prod h k,← sN_mul']
    refine sN_congr fun x _ => ?_
    rw [← sV_mul]
    refine sV_congr fun v _ => ?_
    rw [updV_same]
    congr 1
    exact pN_congr fun i hi => by rw [updV_ne v _ (by omega)]
theorem sum_diag {m i:Nat} (s v:Nat → Int):(CR.sumN m fun j => diagM s i j * v j) = if i < m then s i * v i else 0:=by
  by_cases h:i < m
  · rw [if_pos h,CR.sumN_single (R:=Int) (f:=fun j => diagM s i j * v j) h fun j _ hne => by unfold diagM;rw [if_neg (fun e => hne e.symm)];simp]
    unfold diagM
    rw [if_pos rfl]
  · rw [if_neg h]
    exact CR.sumN_none fun j hj => by unfold diagM;rw [if_neg (by omega)];simp
def chN (n q:Nat) (s:Nat → Int) (i:Nat):Nat:=if i < n then Int.gcd (s i) q else q
theorem gcd_table:∀ q:Nat,q < 14 → ∀ r:Nat,r < q → sN q (fun x => if r * x % q = 0 then 1 else 0) = Nat.gcd r q:=by decide +kernel
theorem gcd_count {q:Nat} (hq:0 < q) (h13:q ≤ 13) (s:Int):sN q (fun x => if (q:Int) ∣ s * (x:Int) then 1 else 0) = Int.gcd s q:=by
  have h0:=Int.emod_nonneg s (show (q:Int) ≠ 0 by omega)
  have h1:=Int.emod_lt_of_pos s (show (0:Int) < q by omega)
  obtain ⟨r,hr⟩:∃ r:Nat,s % (q:Int) = r:=⟨(s % q).toNat,by omega⟩
  have hd:=Int.mul_ediv_add_emod s q
  have h2:Int.gcd s q = Nat.gcd r q:=by
    rw [← Int.gcd_natCast_natCast,← hr]
    conv => lhs;rw [← hd,Int.add_comm]
    exact Int.gcd_add_mul_left_left _ _ _
  rw [h2,← gcd_table q (by omega) r (by omega)]
  refine sN_congr fun x _ => ?_
  have h3:(q:Int) ∣ s * (x:Int) ↔ r * x % q = 0:=by
    rw [← hd,hr,Int.add_mul,Int.mul_assoc,Int.dvd_add_right (Int.dvd_mul_right _ _),← Int.natCast_mul,Int.natCast_dvd_natCast]
    exact ⟨Nat.mod_eq_zero_of_dvd,Nat.dvd_of_mod_eq_zero⟩
  simp only [h3]
theorem sN_one:∀ n,sN n (fun _ => 1) = n
  | 0 => rfl
  | n + 1 => by show sN n _ + 1 = n + 1;rw [sN_one n]
theorem diag_sol {n m q:Nat} (hq:0 < q) (h13:q ≤ 13) (s:Nat → Int):solM n m q (diagM s) = pN m (chN n q s):=by
  unfold solM
  have h:∀ v:Nat → Int,solI n m q (diagM s) v = pN m fun i => if i < n → (q:Int) ∣ s i * v i then 1 else 0:=fun v => by
    rw [pN_ind]
    unfold solI
    have e:(∀ i,i < n → (q:Int) ∣ CR.sumN m fun j => diagM s i j * v j) ↔ ∀ i,i < m → i < n → (q:Int) ∣ s i * v i:=by
      simp only [sum_diag]
      constructor
      · intro h i hm hn
        have:=h i hn
        rwa [if_pos hm] at this
      · intro h i hn
        split
        · next hm => exact h i hm hn
        · exact Int.dvd_zero _
    simp only [e]
  rw [sV_congr fun v _ => h v,sV_prod fun i x => if i < n → (q:Int) ∣ s i * x then 1 else 0]
  refine pN_congr fun i _ => ?_
  unfold chN
  by_cases hi:i < n
  · rw [if_pos hi,← gcd_count hq h13]
    exact sN_congr fun x _ => by simp only [hi,forall_const]
  · rw [if_neg hi]
    refine (sN_congr fun x _ => ?_).trans (sN_one q)
    rw [if_pos fun h => absurd h hi]
theorem solN_smith {xss:List (List Int)} {m q:Nat} (hq:0 < q) (h13:q ≤ 13) (hm:∀ i,i < xss.length → (xss.getD i []).length = m) {s:Nat → Int} (h:El xss.length m (matF xss) (diagM s)):solN xss m q = pN m (chN xss.length q s):=by
  rw [solN_solM hq hm,h.sol hq,diag_sol hq h13]
theorem pN_le {f:Nat → Nat} {b:Nat}:∀ {k:Nat},(∀ i,i < k → f i ≤ b) → pN k f ≤ b ^ k
  | 0,_ => Nat.le_refl _
  | k + 1,h => by
    show pN k f * f k ≤ _
    rw [Nat.pow_succ]
    exact Nat.mul_le_mul (pN_le fun i hi => h i (by omega)) (h k (by omega))
theorem chN_le {n q:Nat} (hq:0 < q) (s:Nat → Int) (i:Nat):chN n q s i ≤ q:=by
  unfold chN
  split
  · exact Nat.le_of_dvd hq (by have:=Int.gcd_dvd_right (a:=s i) (b:=(q:Int));exact Int.natCast_dvd_natCast.1 this)
  · exact Nat.le_refl _
end Go.Proofs.YtbedpgcbfbjgiaaGreatDoor
namespace Go.Proofs.YtbedpgcbfbjgiaaGreatDoor
set_option linter.unusedVariables false
set_option linter.unusedSimpArgs false
open CR

def kL (x:Int):Mtx Int:=fun r c =>
  if r + 1 = x.natAbs then (if 0 < x then (if c = r then 2 else if c = r + 1 then -1 else 0) else (if c = r + 1 then 1 else 0))
  else if r = x.natAbs then (if 0 < x then (if c + 1 = r then 1 else 0) else (if c + 1 = r then -1 else if c = r then 2 else 0))
  else if r = c then 1 else 0
theorem kL_row {x:Int} {n r:Nat} (h0:x ≠ 0) (h1:x.natAbs < n) (hr:r < n) (v:Nat → Int):sumN n (fun k => kL x r k * v k) =
    if r + 1 = x.natAbs then (if 0 < x then 2 * v r - v (r + 1) else v (r + 1)) else if r = x.natAbs then (if 0 < x then v (r - 1) else 2 * v r - v (r - 1)) else v r:=by
  unfold kL
  by_cases e1:r + 1 = x.natAbs
  · simp only [if_pos e1]
    by_cases hx:0 < x
    · simp only [if_pos hx]
      rw [sumN_two (a:=r) (b:=r + 1) hr (by omega) (by omega) (fun i _ h2 h3 => by rw [if_neg h2,if_neg h3];exact Int.zero_mul _),if_pos rfl,if_neg (by omega),if_pos rfl]
      show 2 * v r + -1 * v (r + 1) = _
      omega
    · simp only [if_neg hx]
      rw [sumN_single (k:=r + 1) (by omega) (fun i _ h2 => by rw [if_neg h2];exact Int.zero_mul _),if_pos rfl]
      exact Int.one_mul _
  · simp only [if_neg e1]
    by_cases e2:r = x.natAbs
    · simp only [if_pos e2]
      by_cases hx:0 < x
      · simp only [if_pos hx]
        rw [sumN_single (k:=r - 1) (by omega) (fun i _ h2 => by rw [if_neg (by omega)];exact Int.zero_mul _),if_pos (by omega)]
        exact Int.one_mul _
      · simp only [if_neg hx]
        rw [sumN_two (a:=r - 1) (b:=r) (by omega) hr (by omega) (fun i _ h2 h3 => by rw [if_neg (by omega),if_neg h3];exact Int.zero_mul _),if_pos (by omega),if_neg (by omega),if_pos rfl]
        show -1 * v (r - 1) + 2 * v r = _
        omega
    · simp only [if_neg e2]
      rw [sumN_single (k:=r) hr (fun i _ h2 => by rw [if_neg (fun e => h2 e.symm)];exact Int.zero_mul _),if_pos rfl]
      exact Int.one_mul _
def kM (n:Nat):List Int → Mtx Int
  | [] => oneM
  | x :: w => mulM n (kM n w) (kL x)
theorem dvd_sumN {m:Int} {f:Nat → Int}:∀ {n:Nat},(∀ i,i < n → m ∣ f i) → m ∣ sumN n f
  | 0,_ => Int.dvd_zero m
  | n + 1,h => Int.dvd_add (dvd_sumN fun i hi => h i (by omega)) (h n (by omega))
theorem cSt_lin {m x:Int} {c:List Int} {n:Nat} (hl:c.length = n) (h0:x ≠ 0) (h1:x.natAbs < n) {j:Nat} (hj:j < n):m ∣ (cSt m x c).getD j 0 - sumN n fun k => kL x j k * c.getD k 0:=by
  have e:∀ z:Int,m ∣ z % m - z:=fun z => ⟨-(z / m),by
    have h1:=Int.emod_def z m
    have h2:=Int.mul_neg m (z / m)
    omega⟩
  rw [cSt_getD hl h0 h1 hj,kL_row h0 h1 hj]
  by_cases e1:j + 1 = x.natAbs
  · rw [if_pos e1,if_pos e1]
    split
    · exact e _
    · rw [Int.sub_self];exact Int.dvd_zero m
  · rw [if_neg e1,if_neg e1]
    by_cases e2:j = x.natAbs
    · rw [if_pos e2,if_pos e2]
      split
      · rw [Int.sub_self];exact Int.dvd_zero m
      · exact e _
    · rw [if_neg e2,if_neg e2,Int.sub_self];exact Int.dvd_zero m
theorem sumN_subI (f g:Nat → Int):∀ n,sumN n (fun i => f i - g i) = sumN n f - sumN n g
  | 0 => rfl
  | n + 1 => by
    show sumN n _ + (f n - g n) = sumN n f + f n - (sumN n g + g n)
    rw [sumN_subI f g n]
    omega
theorem cCol_lin {m:Int} {n:Nat}:∀ {w c:List Int},(∀ x ∈ w,x ≠ 0 ∧ x.natAbs < n) → c.length = n → ∀ j,j < n → m ∣ (cCol m w c).getD j 0 - sumN n fun k => kM n w j k * c.getD k 0
  | [],c,_,_,j,hj => by
    show m ∣ c.getD j 0 - sumN n fun k => oneM j k * c.getD k 0
    rw [sumN_single (k:=j) hj (fun i _ h2 => by
      show (if j = i then (1:Int) else 0) * _ = 0
      rw [if_neg (fun e => h2 e.symm)];exact Int.zero_mul _)]
    have e:(oneM j j:Int) = 1:=if_pos rfl
    rw [e,Int.one_mul,Int.sub_self]
    exact Int.dvd_zero m
  | x :: w,c,hw,hl,j,hj => by
    have hx:=hw x (by simp)
    have h1:=cCol_lin (m:=m) (w:=w) (c:=cSt m x c) (fun y hy => hw y (by simp [hy])) (by rw [cSt_length];exact hl) j hj
    have h2:m ∣ sumN n fun k => kM n w j k * ((cSt m x c).getD k 0 - sumN n fun l => kL x k l * c.getD l 0):=dvd_sumN fun i hi => Int.dvd_mul_of_dvd_right (cSt_lin hl hx.1 hx.2 hi)
    have e3:(sumN n fun k => kM n w j k * sumN n fun l => kL x k l * c.getD l 0) = sumN n fun k => kM n (x :: w) j k * c.getD k 0:=by
      show _ = sumN n fun k => (sumN n fun l => kM n w j l * kL x l k) * c.getD k 0
      have e4:(sumN n fun k => (sumN n fun l => kM n w j l * kL x l k) * c.getD k 0) = sumN n fun k => sumN n fun l => kM n w j l * kL x l k * c.getD k 0:=sumN_congr fun i _ => by
        rw [Int.mul_comm]
        rw [show c.getD i 0 * (sumN n fun l => kM n w j l * kL x l i) = sumN n fun l => c.getD i 0 * (kM n w j l * kL x l i) from (sumN_mul _ _ _).symm]
        exact sumN_congr fun l _ => Int.mul_comm _ _
      rw [e4,sumN_swap]
      exact sumN_congr fun i _ => by
        rw [show kM n w j i * (sumN n fun l => kL x i l * c.getD l 0) = sumN n fun l => kM n w j i * (kL x i l * c.getD l 0) from (sumN_mul _ _ _).symm]
        exact sumN_congr fun l _ => (Int.mul_assoc _ _ _).symm
    have e5:(sumN n fun k => kM n w j k * ((cSt m x c).getD k 0 - sumN n fun l => kL x k l * c.getD l 0)) = (sumN n fun k => kM n w j k * (cSt m x c).getD k 0) - sumN n fun k => kM n (x :: w) j k * c.getD k 0:=by
      rw [← e3,← sumN_subI]
      exact sumN_congr fun i _ => Int.mul_sub _ _ _
    rw [e5] at h2
    have h6:=Int.dvd_add h1 h2
    show m ∣ (cCol m w (cSt m x c)).getD j 0 - _
    rw [show (cCol m w (cSt m x c)).getD j 0 - (sumN n fun k => kM n (x :: w) j k * c.getD k 0) = (cCol m w (cSt m x c)).getD j 0 - (sumN n fun k => kM n w j k * (cSt m x c).getD k 0) + ((sumN n fun k => kM n w j k * (cSt m x c).getD k 0) - sumN n fun k => kM n (x :: w) j k * c.getD k 0) by omega]
    exact h6
def cEq (n:Nat) (w:List Int):List (List Int):=(List.range n).map fun i => (List.range n).map fun j => kM n w i j - oneM i j
theorem fix_iff {m:Nat} {n:Nat} {w:List Int} (hm:1 ≤ m) (hw:∀ x ∈ w,x ≠ 0 ∧ x.natAbs < n) (t:Nat):cCol m w (digs m n t) = digs m n t ↔ solB (cEq n w) m t = true:=by
  have hc:=digs_isC (n:=n) hm t
  have hf:=hc.word hw
  have hd:∀ k,k < n → (digs m n t).getD k 0 = digI m t k:=fun k hk => by simp [digs,digI,List.getD,hk]
  have key:∀ j,j < n → ((cCol m w (digs m n t)).getD j 0 = (digs m n t).getD j 0 ↔ (m:Int) ∣ sumN n fun k => (kM n w j k - oneM j k) * digI m t k):=fun j hj => by
    have h1:=cCol_lin (m:=m) hw hc.len j hj
    have h2:=hf.col j hj
    have h3:=hc.col j hj
    have e:(sumN n fun k => (kM n w j k - oneM j k) * digI m t k) = (sumN n fun k => kM n w j k * (digs m n t).getD k 0) - (digs m n t).getD j 0:=by
      have e2:(sumN n fun k => (oneM j k:Int) * (digs m n t).getD k 0) = (digs m n t).getD j 0:=by
        rw [sumN_single (k:=j) hj (fun i _ h2 => by
          show (if j = i then (1:Int) else 0) * _ = 0
          rw [if_neg (fun e => h2 e.symm)];exact Int.zero_mul _)]
        have e:(oneM j j:Int) = 1:=if_pos rfl
        rw [e,Int.one_mul]
      rw [← e2,← sumN_subI]
      exact sumN_congr fun i hi => by rw [hd i hi];exact Int.sub_mul _ _ _
    rw [e]
    generalize (cCol (m:Int) w (digs m n t)).getD j 0 = a at *
    generalize (digs m n t).getD j 0 = b at *
    generalize (sumN n fun k => kM n w j k * (digs m n t).getD k 0) = s at *
    refine ⟨fun h => ?_,fun h => ?_⟩
    · subst h
      have:=Int.dvd_neg.2 h1
      rwa [Int.neg_sub] at this
    · have h4:=Int.dvd_add h1 h
      rw [show a - s + (s - b) = a - b by omega] at h4
      obtain ⟨q,hq⟩:=h4
      have hq0:q = 0:=by
        rcases Int.lt_trichotomy q 0 with h | h | h
        · have:=Int.mul_le_mul_of_nonneg_left (show q ≤ -1 by omega) (show (0:Int) ≤ m by omega)
          omega
        · exact h
        · have:=Int.mul_le_mul_of_nonneg_left (show 1 ≤ q by omega) (show (0:Int) ≤ m by omega)
          omega
      rw [hq0,Int.mul_zero] at hq
      omega
  have hs:solB (cEq n w) m t = true ↔ ∀ j,j < n → (m:Int) ∣ sumN n fun k => (kM n w j k - oneM j k) * digI m t k:=by
    unfold solB cEq
    rw [List.all_eq_true]
    have hr:∀ j,j < n → ((dotI ((List.range n).map fun k => kM n w j k - oneM j k) (digI m t) % (m:Int) == 0) = true ↔ (m:Int) ∣ sumN n fun k => (kM n w j k - oneM j k) * digI m t k):=fun j hj => by
      have e:dotI ((List.range n).map fun k => kM n w j k - oneM j k) (digI m t) = sumN n fun k => (kM n w j k - oneM j k) * digI m t k:=by
        unfold dotI
        rw [List.length_map,List.length_range]
        exact sumN_congr fun i hi => by simp [List.getD,hi]
      rw [e,beq_iff_eq]
      exact ⟨Int.dvd_of_emod_eq_zero,Int.emod_eq_zero_of_dvd⟩
    refine ⟨fun h j hj => (hr j hj).1 (h _ (List.mem_map.2 ⟨j,List.mem_range.2 hj,rfl⟩)),fun h r hr2 => ?_⟩
    obtain ⟨j,hj,rfl⟩:=List.mem_map.1 hr2
    exact (hr j (List.mem_range.1 hj)).2 (h j (List.mem_range.1 hj))
  rw [hs]
  refine ⟨fun h j hj => (key j hj).1 (by rw [h]),fun h => list_extI (by rw [hf.len,hc.len]) fun j hj => (key j (by rw [hf.len] at hj;exact hj)).2 (h j (by rw [hf.len] at hj;exact hj))⟩
theorem cntC_solN {m n:Nat} {w:List Int} (hm:1 ≤ m) (hw:∀ x ∈ w,x ≠ 0 ∧ x.natAbs < n):cntC n m w = solN (cEq n w) n m:=by
  unfold cntC solN
  refine List.countP_congr fun t _ => ?_
  rw [decide_eq_true_iff]
  exact fix_iff hm hw t
end Go.Proofs.YtbedpgcbfbjgiaaGreatDoor
namespace Go.Proofs.YtbedpgcbfbjgiaaGreatDoor
set_option linter.unusedVariables false
set_option linter.unusedSimpArgs false
open CR

def uCol (m:Int) (n t:Nat):List Int:=(List.replicate n 0).set t (1 % m)
theorem uCol_length (m:Int) (n t:Nat):(uCol m n t).length = n:=by simp [uCol]
theorem uCol_getD {m:Int} {n t j:Nat} (hj:j < n):(uCol m n t).getD j 0 = if j = t then 1 % m else 0:=by
  unfold uCol
  simp only [List.getD,List.getElem?_set,List.length_replicate]
  by_cases e:t = j
  · subst e;simp [hj]
  · rw [if_neg e,if_neg (fun h => e h.symm)]
    simp [hj]
theorem uCol_isC {m:Int} {n t:Nat} (hm:1 ≤ m):IsC m n (uCol m n t):=by
  refine ⟨uCol_length _ _ _,fun j hj => ?_⟩
  rw [uCol_getD hj]
  split
  · exact ⟨Int.emod_nonneg _ (by omega),Int.emod_lt_of_pos _ (by omega)⟩
  · omega
def dEl (m:Int) (n:Nat) (w:List Int) (i t:Nat):Int:=(cCol m w (uCol m n t)).getD i 0 - (uCol m n t).getD i 0
def dMx (m:Int) (n:Nat) (w:List Int):List (List Int):=(List.range n).map fun i => (List.range n).map fun t => dEl m n w i t
theorem dMx_length (m:Int) (n:Nat) (w:List Int):(dMx m n w).length = n:=by simp [dMx]
theorem dMx_row {m:Int} {n i:Nat} (w:List Int) (h:i < n):(dMx m n w).getD i [] = (List.range n).map fun t => dEl m n w i t:=by simp [dMx,List.getD,h]
theorem dEl_cong {m:Int} {n:Nat} {w:List Int} (hw:∀ x ∈ w,x ≠ 0 ∧ x.natAbs < n) {i t:Nat} (hi:i < n) (ht:t < n):m ∣ dEl m n w i t - (kM n w i t - oneM i t):=by
  have h1:=cCol_lin (m:=m) hw (uCol_length m n t) i hi
  have e:(sumN n fun k => kM n w i k * (uCol m n t).getD k 0) = kM n w i t * (1 % m):=by
    rw [sumN_single (k:=t) ht (fun j hj h2 => by rw [uCol_getD hj,if_neg h2];exact Int.mul_zero _),uCol_getD ht,if_pos rfl]
  rw [e] at h1
  have h2:m ∣ 1 % m - 1:=⟨-(1 / m),by
    have h1:=Int.emod_def 1 m
    have h2:=Int.mul_neg m (1 / m)
    omega⟩
  have h3:m ∣ kM n w i t * (1 % m) - kM n w i t:=by
    have:=Int.dvd_mul_of_dvd_right (b:=kM n w i t) h2
    rw [Int.mul_sub,Int.mul_one] at this
    exact this
  have h4:m ∣ (uCol m n t).getD i 0 - oneM i t:=by
    rw [uCol_getD hi]
    show m ∣ _ - (if i = t then (1:Int) else 0)
    split
    · exact h2
    · exact Int.dvd_zero m
  have h5:=Int.dvd_sub (Int.dvd_add h1 h3) h4
  unfold dEl
  generalize (cCol m w (uCol m n t)).getD i 0 = a at *
  generalize (uCol m n t).getD i 0 = b at *
  generalize kM n w i t * (1 % m) = c at *
  generalize kM n w i t = d at *
  generalize (oneM i t:Int) = f at *
  rw [show a - b - (d - f) = a - c + (c - d) - (b - f) by omega]
  exact h5
theorem solB_dMx {m n:Nat} {w:List Int} (hw:∀ x ∈ w,x ≠ 0 ∧ x.natAbs < n) (t:Nat):solB (dMx m n w) m t = solB (cEq n w) m t:=by
  have hr:∀ (r:Nat → Int),dotI ((List.range n).map r) (digI m t) = sumN n fun k => r k * digI m t k:=fun r => by
    unfold dotI
    rw [List.length_map,List.length_range]
    exact sumN_congr fun i hi => by simp [List.getD,hi]
  have key:∀ j,j < n → ((dotI ((List.range n).map fun t => dEl m n w j t) (digI m t) % (m:Int) == 0) = (dotI ((List.range n).map fun k => kM n w j k - oneM j k) (digI m t) % (m:Int) == 0)):=fun j hj => by
    rw [hr,hr]
    have hd:(m:Int) ∣ (sumN n fun k => dEl m n w j k * digI m t k) - sumN n fun k => (kM n w j k - oneM j k) * digI m t k:=by
      rw [← sumN_subI]
      refine dvd_sumN fun i hi => ?_
      rw [← Int.sub_mul]
      exact Int.dvd_mul_of_dvd_left (dEl_cong hw hj hi)
    generalize (sumN n fun k => dEl m n w j k * digI m t k) = a at *
    generalize (sumN n fun k => (kM n w j k - oneM j k) * digI m t k) = b at *
    have he:a % (m:Int) = b % (m:Int):=Int.emod_eq_emod_iff_emod_sub_eq_zero.2 (Int.emod_eq_zero_of_dvd hd)
    rw [he]
  unfold solB dMx cEq
  rw [List.all_map,List.all_map]
  refine Bool.eq_iff_iff.2 ?_
  rw [List.all_eq_true,List.all_eq_true]
  refine ⟨fun h j hj => ?_,fun h j hj => ?_⟩
  · have:=h j hj
    show (dotI _ _ % _ == 0) = true
    rw [← key j (List.mem_range.1 hj)]
    exact this
  · have:=h j hj
    show (dotI _ _ % _ == 0) = true
    rw [key j (List.mem_range.1 hj)]
    exact this
theorem solN_dMx {m n:Nat} {w:List Int} (hm:1 ≤ m) (hw:∀ x ∈ w,x ≠ 0 ∧ x.natAbs < n):solN (dMx m n w) n m = cntC n m w:=by
  rw [cntC_solN hm hw]
  unfold solN
  refine List.countP_congr fun t _ => ?_
  rw [solB_dMx hw]
theorem dEl_le {m n:Nat} {w:List Int} (hm:1 ≤ m) (h13:m ≤ 13) (hw:∀ x ∈ w,x ≠ 0 ∧ x.natAbs < n) {i t:Nat} (hi:i < n):dEl m n w i t ≤ 100 ∧ -100 ≤ dEl m n w i t:=by
  have h1:=((uCol_isC (m:=(m:Int)) (n:=n) (t:=t) (by omega)).word hw).col i hi
  have h2:=(uCol_isC (m:=(m:Int)) (n:=n) (t:=t) (by omega)).col i hi
  unfold dEl
  omega
theorem dMx_fault {m n:Nat} {w:List Int} (hm:1 ≤ m) (h13:m ≤ 13) (h6:n ≤ 6) (hw:∀ x ∈ w,x ≠ 0 ∧ x.natAbs < n):mfault (dMx m n w) = 0:=by
  refine mfault_ok (k:=n) (by rw [dMx_length];exact h6) h6 fun r hr => ?_
  obtain ⟨i,hi,rfl⟩:=List.mem_map.1 hr
  refine ⟨by simp,fun x hx => ?_⟩
  obtain ⟨t,ht,rfl⟩:=List.mem_map.1 hx
  exact dEl_le hm h13 hw (List.mem_range.1 hi)
theorem dMx_sol {m n:Nat} {w:List Int} (hm:1 ≤ m) (h13:m ≤ 13) (h1:1 ≤ n) (h6:n ≤ 6) (hw:∀ x ∈ w,x ≠ 0 ∧ x.natAbs < n):solE (dMx m n w) m = 0 ∧ solV (dMx m n w) m = (cntC n m w:Int):=by
  have he:solE (dMx m n w) m = 0:=by
    unfold solE
    rw [if_pos (dMx_fault hm h13 h6 hw),if_neg (by omega)]
  refine ⟨he,?_⟩
  have hc:colsM (dMx m n w) = n:=by
    unfold colsM
    rw [dMx_row w (by omega)]
    simp
  unfold solV
  rw [if_pos he,Int.toNat_natCast,hc,solN_dMx hm hw]
end Go.Proofs.YtbedpgcbfbjgiaaGreatDoor
namespace Go.Proofs.YtbedpgcbfbjgiaaGreatDoor
set_option linter.unusedVariables false
set_option linter.unusedSimpArgs false
open Go.RowKit

structure MaI (w:World) (base go n:Nat) (gr:Nat → Nat) (k:Nat) (X:Nat → Nat → Int):Prop where
  blk:∃ cs,Blk w go 22 cs
  out:∀ i,i < k → w.cell? ⟨go,i,none⟩ = some (.slice (some ⟨gr i,0,none⟩) n n)
  row:∀ i,i < k → OwnI w base (some ⟨gr i,0,none⟩) n n ((List.range n).map (X i))
  ne:∀ i,i < k → gr i ≠ go
  inj:∀ i j,i < k → j < k → gr i = gr j → i = j
  lt:∀ i,i < k → gr i < w.heap.size
  base_le:base ≤ go ∧ ∀ i,i < k → base ≤ gr i
section
variable {w w':World} {base go n k:Nat} {gr:Nat → Nat} {X Y:Nat → Nat → Int}
theorem MaI.go_lt (h:MaI w base go n gr k X):go < w.heap.size:=by
  obtain ⟨cs,hc⟩:=h.blk
  exact hc.lt
theorem MaI.below (h:MaI w base go n gr k X) (hb:Below w.heap.size w w'):MaI w' base go n gr k X:=by
  refine ⟨?_,fun i hi => ?_,fun i hi => (KeepT.below hb).ownI (h.row i hi),h.ne,h.inj,fun i hi => Nat.lt_of_lt_of_le (h.lt i hi) hb.size,h.base_le⟩
  · obtain ⟨cs,hc⟩:=h.blk
    exact ⟨cs,hc.below hb hc.lt⟩
  · rw [← h.out i hi]
    exact hb.cell (p:=⟨go,i,none⟩) h.go_lt
theorem MaI.cell (h:MaI w base go n gr k X) {i j:Nat} (hi:i < k) (hj:j < n):w.cell? ⟨gr i,j,none⟩ = some (.int .i64 (X i j)):=by
  rw [(h.row i hi).cell hj]
  simp [List.getD,hj]
theorem MaI.frozen (h:MaI w base go n gr k X) {i:Nat} (hi:i < k) (j:Nat):w.frozen? ⟨gr i,j,none⟩ = false:=(h.row i hi).frozen j
theorem MaI.set_ (h:MaI w base go n gr k X) {r c:Nat} (hr:r < k) (hc:c < n) (v:Int):MaI (w.setCell ⟨gr r,c,none⟩ (.int .i64 v)) base go n gr k (fun i j => if i = r ∧ j = c then v else X i j):=by
  have hne:go ≠ gr r:=fun e => h.ne r hr e.symm
  refine ⟨?_,fun i hi => ?_,fun i hi => ?_,h.ne,h.inj,fun i hi => ?_,h.base_le⟩
  · obtain ⟨cs,hc2⟩:=h.blk
    exact ⟨cs,hc2.far hne _⟩
  · rw [← h.out i hi]
    exact World.cell?_of_block (w:=w) (a:=⟨go,i,none⟩) (Below.heap_setCell w ⟨gr r,c,none⟩ _ go hne)
  · by_cases e:i = r
    · subst e
      have h2:=(h.row i hi).set_ c v
      have e2:((List.range n).map (X i)).set c v = (List.range n).map fun j => if i = i ∧ j = c then v else X i j:=by
        refine List.ext_getElem (by simp) fun j h3 h4 => ?_
        rw [List.getElem_set]
        simp only [List.getElem_map,List.getElem_range,true_and]
        by_cases e3:c = j
        · rw [if_pos e3,if_pos e3.symm]
        · rw [if_neg e3,if_neg (Ne.symm e3)]
      rwa [e2] at h2
    · have hg:gr i ≠ gr r:=fun e2 => e (h.inj i r hi hr e2)
      have e2:(List.range n).map (fun j => if i = r ∧ j = c then v else X i j) = (List.range n).map (X i):=List.map_congr_left fun j _ => by rw [if_neg (fun h => e h.1)]
      rw [e2]
      have ho:=h.row i hi
      refine ⟨⟨ho.own.1,?_⟩,ho.small⟩
      rcases ho.own.2 with h2 | ⟨b,cap,cur,hv,hb,hh,q⟩
      · exact .inl h2
      · have hbg:b = gr i:=by
          injection hv with hv
          injection hv with hv
          injection hv with hv
          exact hv.symm
        exact .inr ⟨b,cap,cur,hv,hb,(Below.heap_setCell w ⟨gr r,c,none⟩ _ b (by rw [hbg];exact hg)).trans hh,q⟩
  · have:=h.lt i hi
    simpa [World.setCell] using this
theorem MaI.congr (h:MaI w base go n gr k X) (e:∀ i,i < k → ∀ j,j < n → X i j = Y i j):MaI w base go n gr k Y:=
  ⟨h.blk,h.out,fun i hi => by rw [show (List.range n).map (Y i) = (List.range n).map (X i) from List.map_congr_left fun j hj => (e i hi j (List.mem_range.1 hj)).symm];exact h.row i hi,h.ne,h.inj,h.lt,h.base_le⟩
theorem MaI.push (h:MaI w base go n gr k X) {g:Nat} (hb:Below w.heap.size w w') (hg:w.heap.size ≤ g) (ho:OwnI w' base (some ⟨g,0,none⟩) n n ((List.range n).map (X k))) (hgl:g < w'.heap.size) (hgb:base ≤ g) {u:Value} (hu:w.cell? ⟨go,k,none⟩ = some u) :
    MaI (w'.setCell ⟨go,k,none⟩ (.slice (some ⟨g,0,none⟩) n n)) base go n (fun i => if i = k then g else gr i) (k + 1) X:=by
  have hgo:=h.go_lt
  have h1:=h.below hb
  have far:∀ {g':Nat} {i:Nat},g' ≠ go → OwnI w' base (some ⟨g',0,none⟩) n n ((List.range n).map (X i)) → OwnI (w'.setCell ⟨go,k,none⟩ (.slice (some ⟨g,0,none⟩) n n)) base (some ⟨g',0,none⟩) n n ((List.range n).map (X i)):=by
    intro g' i hne ho
    refine ⟨⟨ho.own.1,?_⟩,ho.small⟩
    rcases ho.own.2 with h2 | ⟨b,cap,cur,hv,hb,hh,q⟩
    · exact .inl h2
    · have hbg:b = g':=by
        injection hv with hv
        injection hv with hv
        injection hv with hv
        exact hv.symm
      exact .inr ⟨b,cap,cur,hv,hb,(Below.heap_setCell w' ⟨go,k,none⟩ _ b (by rw [hbg];exact hne)).trans hh,q⟩
  have hsz:(w'.setCell ⟨go,k,none⟩ (.slice (some ⟨g,0,none⟩) n n)).heap.size = w'.heap.size:=by simp [World.setCell]
  refine ⟨?_,fun i hi => ?_,fun i hi => ?_,fun i hi => ?_,fun i j hi hj e => ?_,fun i hi => ?_,h.base_le.1,fun i hi => ?_⟩
  · obtain ⟨cs,hc⟩:=h1.blk
    exact ⟨_,hc.set_ k _⟩
  · by_cases e:i = k
    · subst e
      show _ = some (Value.slice (some ⟨if i = i then g else gr i,0,none⟩) n n)
      rw [if_pos rfl]
      exact World.cell?_setCell_same w' _ _ ((hb.cell (p:=⟨go,i,none⟩) hgo).trans hu)
    · show _ = some (Value.slice (some ⟨if i = k then g else gr i,0,none⟩) n n)
      rw [if_neg e,World.cell?_setCell_other w' _ _ _ (by intro h2;simp only [Addr.mk.injEq] at h2;omega)]
      exact h1.out i (by omega)
  · by_cases e:i = k
    · subst e;rw [if_pos rfl];exact far (by omega) ho
    · rw [if_neg e];exact far (h.ne i (by omega)) (h1.row i (by omega))
  · by_cases e:i = k
    · rw [if_pos e];omega
    · rw [if_neg e];exact h.ne i (by omega)
  · by_cases e1:i = k
    · by_cases e2:j = k
      · omega
      · rw [if_pos e1,if_neg e2] at e
        have:=h.lt j (by omega)
        omega
    · by_cases e2:j = k
      · rw [if_neg e1,if_pos e2] at e
        have:=h.lt i (by omega)
        omega
      · rw [if_neg e1,if_neg e2] at e
        exact h.inj i j (by omega) (by omega) e
  · rw [hsz]
    by_cases e:i = k
    · rw [if_pos e];exact hgl
    · rw [if_neg e];exact h1.lt i (by omega)
  · by_cases e:i = k
    · rw [if_pos e];exact hgb
    · rw [if_neg e];exact h.base_le.2 i (by omega)
end
theorem gives_indexQ {P:Program} {o:Oper} {a:Act} {w:World} {t e:TypeId} {x y:Operand} {g k n c:Nat} {q:IntKind} (ho:o.op = .indexAddr t x y) (ht:P.underlying t = some (.slice e)) (he:∀ w,(sizeOf e).run P w = .ok 1 w) (hx:a.eval x = .slice (some ⟨g,0,none⟩) n c) (hy:a.eval y = .int q k) (hk:k < n) :
    Gives P o a w (.pointer (some ⟨g,k,none⟩)):=by
  have h:=gives_indexA (w:=w) ho ht he hx hy hk
  rwa [Addr.add_mid,Nat.zero_add] at h
theorem ownV_zero {w:World} {base n c:Nat} {A:Option Addr} (h:w.ownsRow base 22 1 (.slice A n c) n (madeCells #[Value.slice none 0 0] (n * 1)).toList) (hs:n ≤ 1000):OwnV w base A n c (List.replicate n (.slice none 0 0)):=by
  refine ⟨?_,by omega⟩
  rw [toList_madeCells_one,Nat.mul_one] at h
  simpa using h
theorem MaI.start {w:World} {base go n m:Nat} {vs:List Value} (h:OwnV w base (some ⟨go,0,none⟩) m m vs) (X:Nat → Nat → Int):MaI w base go n (fun _ => 0) 0 X:=by
  have hb:=(h.lt go rfl).1
  refine ⟨?_,fun i hi => absurd hi (Nat.not_lt_zero _),fun i hi => absurd hi (Nat.not_lt_zero _),fun i hi => absurd hi (Nat.not_lt_zero _),fun i j hi => absurd hi (Nat.not_lt_zero _),fun i hi => absurd hi (Nat.not_lt_zero _),hb,fun i hi => absurd hi (Nat.not_lt_zero _)⟩
  rcases h.own.2 with ⟨e,_⟩ | ⟨g,cap,cur,e,_,hh,_⟩
  · cases e
  · simp only [Value.slice.injEq,Option.some.injEq,Addr.mk.injEq,and_true,true_and] at e
    obtain ⟨rfl,_⟩:=e
    exact ⟨cur,hh⟩
theorem map_zero (n:Nat):(List.range n).map (fun _ => (0:Int)) = List.replicate n 0:=by
  rw [List.map_const',List.length_range]

end Go.Proofs.YtbedpgcbfbjgiaaGreatDoor
namespace Go.Proofs.YtbedpgcbfbjgiaaGreatDoor
set_option linter.unusedVariables false
set_option linter.unusedSimpArgs false
open Go.RowKit

structure MSt (w0 w:World) (A:Option Addr) (n c:Nat) (vs:List Value) (xss:List (List Int)):Prop where
  own:OwnV w w0.heap.size A n c vs
  rows:RowsI w w0.heap.size vs xss
  below:Below w0.heap.size w0 w
section
variable {w0 w w':World} {A:Option Addr} {n c:Nat} {vs:List Value} {xss:List (List Int)}
theorem MSt.to (h:MSt w0 w A n c vs xss) (hb:Below w.heap.size w w'):MSt w0 w' A n c vs xss:=
  ⟨h.own.keep (KeepT.below hb),h.rows.keep (KeepT.below hb),h.below.trans (hb.mono h.below.size)⟩
theorem MSt.add {w9:World} {B A9:Option Addr} {m d c9:Nat} {xs:List Int} (h:MSt w0 w A n c vs xss) (hc:OwnI w w0.heap.size B m d xs)
    (happ:AppendedV (w.alloc (.cells #[.slice B m d] 22)) w0.heap.size A (n + 1) c (vs ++ [.slice B m d]) A9 c9 w9):MSt w0 w9 A9 (n + 1) c9 (vs ++ [.slice B m d]) (xss ++ [xs]):=by
  have hblk:∀ g,(Value.slice A (n + 1) c).ownBlock = some g → w0.heap.size ≤ g ∧ g < w.heap.size ∧ ∃ (cs:Array Value),w.heap[g]? = some (.cells cs 22 (0,0)):=by
    intro g hg
    rw [ownBlock_len A (n + 1) n c c] at hg
    obtain ⟨h1,h2⟩:=h.own.lt g hg
    refine ⟨h1,h2,?_⟩
    rcases h.own.own.2 with ⟨hv,_⟩ | ⟨g',cap,cur,hv,_,hh,_⟩
    · rw [hv] at hg;cases hg
    · rw [hv] at hg
      injection hg with hg
      subst hg
      exact ⟨cur,hh⟩
  have k3:KeepT 3 w w9:=(KeepT.alloc w _).trans (KeepT.grown happ.grown (fun g hg => by
    obtain ⟨_,h2,cs,h3⟩:=hblk g hg
    exact ⟨22,cs,(Below.heap_alloc w _ g h2).trans h3,by decide⟩))
  exact ⟨happ.own,(h.rows.keep k3).snoc (k3.ownI hc),(h.below.alloc h.below.size _).grown happ.grown (Nat.le_trans h.below.size (by simp)) (fun g hg => (hblk g hg).1)⟩
theorem MSt.len (h:MSt w0 w A n c vs xss):xss.length = n:=by rw [← h.rows.len];exact h.own.len
end
theorem rows_info:(Tryz.prog.info? 22).map (fun i => (i.zero,i.size,i.bytes)) = some (some (.slice none 0 0),1,24):=by kernel_rfl
end Go.Proofs.YtbedpgcbfbjgiaaGreatDoor
