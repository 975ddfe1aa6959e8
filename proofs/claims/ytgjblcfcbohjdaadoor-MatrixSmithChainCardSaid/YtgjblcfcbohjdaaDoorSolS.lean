/- How many solutions modulo q a matrix has, out of its Smith form. -/
import Derived.Test.YtgjblcfcbohjdaaDoorCount
import Derived.Test.YtgjblcfcbohjdaaDoorBase
namespace Go.Proofs.YtgjblcfcbohjdaaDoor
set_option linter.unusedVariables false
set_option linter.unusedSimpArgs false
open Go.RowKit

def updV (v : Nat → Int) (k : Nat) (x : Int) : Nat → Int := fun i => if i = k then x else v i
/-- The sum over all vectors of k digits. -/
def sV (q : Nat) : Nat → ((Nat → Int) → Nat) → Nat
  | 0, F => F fun _ => 0
  | k + 1, F => sN q fun x => sV q k fun v => F (updV v k x)
theorem updV_same (v : Nat → Int) (k : Nat) (x : Int) : updV v k x k = x := by simp [updV]
theorem updV_ne (v : Nat → Int) {k i : Nat} (x : Int) (h : i ≠ k) : updV v k x i = v i := by simp [updV, h]
theorem updV_updV (v : Nat → Int) (k : Nat) (x y : Int) : updV (updV v k x) k y = updV v k y := by funext i; unfold updV; split <;> rfl
theorem updV_comm (v : Nat → Int) {k s : Nat} (x y : Int) (h : k ≠ s) : updV (updV v k x) s y = updV (updV v s y) k x := by
  funext i
  unfold updV
  grind
theorem updV_pos {v : Nat → Int} (h : ∀ j, 0 ≤ v j) (k x : Nat) : ∀ j, 0 ≤ updV v k x j := fun j => by
  unfold updV
  split
  · omega
  · exact h j
theorem sV_congr {q : Nat} : ∀ {k : Nat} {F G : (Nat → Int) → Nat}, (∀ v, (∀ j, 0 ≤ v j) → F v = G v) → sV q k F = sV q k G
  | 0, F, G, h => h _ fun _ => Int.le_refl _
  | k + 1, F, G, h => sN_congr fun x _ => sV_congr fun v hv => h _ (updV_pos hv k x)
theorem sN_add (f g : Nat → Nat) : ∀ n, sN n (fun i => f i + g i) = sN n f + sN n g
  | 0 => rfl
  | n + 1 => by show sN n _ + _ = _; rw [sN_add f g n]; show sN n f + sN n g + (f n + g n) = (sN n f + f n) + (sN n g + g n); omega
theorem sN_mul (c : Nat) (f : Nat → Nat) : ∀ n, sN n (fun i => f i * c) = sN n f * c
  | 0 => by show 0 = 0 * c; rw [Nat.zero_mul]
  | n + 1 => by show sN n _ + _ = _; rw [sN_mul c f n]; show _ = (sN n f + f n) * c; rw [Nat.add_mul]
theorem sN_mul' (c : Nat) (f : Nat → Nat) (n : Nat) : sN n (fun i => c * f i) = c * sN n f := by
  rw [Nat.mul_comm, ← sN_mul]
  exact sN_congr fun i _ => Nat.mul_comm _ _
theorem sN_zero0 : ∀ n, sN n (fun _ => 0) = 0
  | 0 => rfl
  | n + 1 => by show sN n _ + 0 = 0; rw [sN_zero0 n]
theorem sN_swap (f : Nat → Nat → Nat) (m : Nat) : ∀ n, sN n (fun i => sN m fun j => f i j) = sN m fun j => sN n fun i => f i j
  | 0 => (sN_zero0 m).symm
  | n + 1 => by
    show sN n _ + _ = _
    rw [sN_swap f m n, ← sN_add]
    rfl
theorem sN_sV {q n : Nat} : ∀ {k : Nat} (F : Nat → (Nat → Int) → Nat), sN n (fun x => sV q k (F x)) = sV q k fun v => sN n fun x => F x v
  | 0, F => rfl
  | k + 1, F => by
    show sN n (fun x => sN q fun y => sV q k fun v => F x (updV v k y)) = sN q fun y => sV q k fun v => sN n fun x => F x (updV v k y)
    rw [sN_swap]
    exact sN_congr fun y _ => sN_sV fun x v => F x (updV v k y)
theorem sV_mul {q c : Nat} : ∀ {k : Nat} (F : (Nat → Int) → Nat), sV q k (fun v => F v * c) = sV q k F * c
  | 0, F => rfl
  | k + 1, F => by
    show sN q _ = sN q _ * c
    rw [← sN_mul]
    exact sN_congr fun x _ => sV_mul fun v => F (updV v k x)
theorem sN_front (f : Nat → Nat) : ∀ n, sN (n + 1) f = f 0 + sN n fun i => f (i + 1)
  | 0 => by show 0 + f 0 = f 0 + 0; omega
  | n + 1 => by
    show sN (n + 1) f + f (n + 1) = f 0 + (sN n (fun i => f (i + 1)) + f (n + 1))
    rw [sN_front f n]; omega
theorem sN_rot1 {q : Nat} (hq : 0 < q) (f : Nat → Nat) : sN q (fun x => f ((x + 1) % q)) = sN q f := by
  obtain ⟨p, rfl⟩ : ∃ p, q = p + 1 := ⟨q - 1, by omega⟩
  rw [sN_front f]
  show sN p (fun x => f ((x + 1) % (p + 1))) + f ((p + 1) % (p + 1)) = _
  rw [Nat.mod_self, Nat.add_comm]
  congr 1
  exact sN_congr fun i hi => by rw [Nat.mod_eq_of_lt (by omega)]
theorem sN_rot {q : Nat} (hq : 0 < q) : ∀ (c : Nat) (f : Nat → Nat), sN q (fun x => f ((x + c) % q)) = sN q f
  | 0, f => sN_congr fun i hi => by rw [Nat.add_zero, Nat.mod_eq_of_lt hi]
  | c + 1, f => by
    rw [← sN_rot1 hq f, ← sN_rot hq c fun y => f ((y + 1) % q)]
    refine sN_congr fun i _ => ?_
    rw [show i + (c + 1) = i + c + 1 by omega, Nat.mod_add_mod]
theorem sV_shift {q : Nat} (hq : 0 < q) (s : Nat) : ∀ (k : Nat) (σ : (Nat → Int) → Nat) (F : (Nat → Int) → Nat), (∀ v x, σ (updV v s x) = σ v) → s < k → sV q k (fun v => F (updV v s ((((v s).toNat + σ v) % q : Nat) : Int))) = sV q k F
  | 0, σ, F, _, h => absurd h (by omega)
  | k + 1, σ, F, hσ, h => by
    by_cases hs : s = k
    · subst hs
      show sN q (fun x => sV q s fun v => F (updV (updV v s x) s ((((updV v s x s).toNat + σ (updV v s x)) % q : Nat) : Int))) = sN q fun x => sV q s fun v => F (updV v s x)
      rw [sN_sV, sN_sV]
      refine sV_congr fun v _ => ?_
      rw [← sN_rot hq (σ v) fun y => F (updV v s y)]
      refine sN_congr fun x _ => ?_
      rw [updV_updV, updV_same, hσ, Int.toNat_natCast]
    · show sN q (fun x => sV q k fun v => F (updV (updV v k x) s ((((updV v k x s).toNat + σ (updV v k x)) % q : Nat) : Int))) = sN q fun x => sV q k fun v => F (updV v k x)
      refine sN_congr fun x _ => ?_
      rw [← sV_shift hq s k (fun v => σ (updV v k x)) (fun v => F (updV v k x)) (fun v y => by
        show σ (updV (updV v s y) k x) = σ (updV v k x)
        rw [updV_comm v y x hs, hσ]) (by omega)]
      refine sV_congr fun v _ => ?_
      rw [updV_ne v _ hs, updV_comm v _ _ (fun e => hs e.symm)]

/-- Is v a solution? -/
def solI (n m q : Nat) (A : Mtx Int) (v : Nat → Int) : Nat := if ∀ i, i < n → (q : Int) ∣ CR.sumN m fun j => A i j * v j then 1 else 0
def solM (n m q : Nat) (A : Mtx Int) : Nat := sV q m (solI n m q A)
theorem solI_congr {n m q : Nat} {A B : Mtx Int} {v u : Nat → Int} (h : (∀ i, i < n → (q : Int) ∣ CR.sumN m fun j => A i j * v j) ↔ ∀ i, i < n → (q : Int) ∣ CR.sumN m fun j => B i j * u j) : solI n m q A v = solI n m q B u := by
  unfold solI
  simp only [h]
theorem cntS_sV (xss : List (List Int)) (q : Nat) : ∀ (k : Nat) (c : Nat → Int), cntS xss q k c = sV q k fun v => if ∀ i, i < xss.length → (c i + CR.sumN k fun j => matF xss i j * v j) % (q : Int) = 0 then 1 else 0
  | 0, c => by
    unfold cntS sV
    simp only [CR.sumN_zero]
    simp
  | k + 1, c => by
    unfold cntS sV
    refine sN_congr fun x _ => ?_
    rw [cntS_sV xss q k]
    refine sV_congr fun v _ => ?_
    have h : ∀ i, c i + (x : Int) * matF xss i k + (CR.sumN k fun j => matF xss i j * v j) = c i + CR.sumN (k + 1) fun j => matF xss i j * updV v k x j := fun i => by
      rw [CR.sumN_succ, updV_same]
      rw [CR.sumN_congr (f := fun j => matF xss i j * updV v k x j) (g := fun j => matF xss i j * v j) fun j hj => by rw [updV_ne v _ (by omega)]]
      rw [Int.mul_comm (x : Int)]
      omega
    simp only [h]
theorem solN_solM {xss : List (List Int)} {m q : Nat} (hq : 0 < q) (hm : ∀ i, i < xss.length → (xss.getD i []).length = m) : solN xss m q = solM xss.length m q (matF xss) := by
  rw [solN_cnt hq hm, cntS_sV]
  refine sV_congr fun v _ => ?_
  unfold solI
  have h : (∀ i, i < xss.length → (0 + CR.sumN m fun j => matF xss i j * v j) % (q : Int) = 0) ↔ ∀ i, i < xss.length → (q : Int) ∣ CR.sumN m fun j => matF xss i j * v j :=
    forall_congr' fun i => imp_congr_right fun _ => by rw [Int.zero_add]; exact ⟨Int.dvd_of_emod_eq_zero, Int.emod_eq_zero_of_dvd⟩
  simp only [h]

theorem sum_row (m : Nat) (a b v : Nat → Int) (d : Int) : (CR.sumN m fun j => (a j + d * b j) * v j) = (CR.sumN m fun j => a j * v j) + d * CR.sumN m fun j => b j * v j := by
  have h2 := CR.sumN_mul d (fun j => b j * v j) m
  rw [← show (CR.sumN m fun j => d * (b j * v j)) = _ from h2, ← show (CR.sumN m fun j => a j * v j + d * (b j * v j)) = _ from CR.sumN_add _ _ m]
  exact CR.sumN_congr fun j _ => by grind
theorem sum_upd {m s : Nat} (hs : s < m) (a v : Nat → Int) (y : Int) : (CR.sumN m fun j => a j * updV v s y j) = (CR.sumN m fun j => a j * v j) + a s * (y - v s) := by
  have h1 : (CR.sumN m fun j => if j = s then a s * (y - v s) else 0) = a s * (y - v s) := by
    have h := CR.sumN_single (R := Int) (f := fun j => if j = s then a s * (y - v s) else 0) hs fun i _ hne => by simp [hne]
    simpa using h
  conv => rhs; rw [← h1]
  rw [← show (CR.sumN m fun j => a j * v j + if j = s then a s * (y - v s) else 0) = _ from CR.sumN_add _ _ m]
  refine CR.sumN_congr fun j _ => ?_
  unfold updV
  grind
theorem sum_col {m r : Nat} (hr : r < m) (a v : Nat → Int) (e : Int) : (CR.sumN m fun j => (if j = r then a j + e else a j) * v j) = (CR.sumN m fun j => a j * v j) + e * v r := by
  have h1 : (CR.sumN m fun j => if j = r then e * v r else 0) = e * v r := by
    have h := CR.sumN_single (R := Int) (f := fun j => if j = r then e * v r else 0) hr fun i _ hne => by simp [hne]
    simpa using h
  conv => rhs; rw [← h1]
  rw [← show (CR.sumN m fun j => a j * v j + if j = r then e * v r else 0) = _ from CR.sumN_add _ _ m]
  refine CR.sumN_congr fun j _ => ?_
  grind

theorem El.sol {n m q : Nat} {A B : Mtx Int} (hq : 0 < q) (h : El n m A B) : solM n m q A = solM n m q B := by
  induction h with
  | ext h => exact sV_congr fun v _ => solI_congr (forall_congr' fun i => imp_congr_right fun hi => by rw [CR.sumN_congr fun j hj => by rw [h i hi j hj]])
  | row A r s c hr hs hne =>
    refine sV_congr fun v _ => solI_congr ?_
    have e1 : ∀ i, i ≠ r → (CR.sumN m fun j => addR A r s c i j * v j) = CR.sumN m fun j => A i j * v j := fun i hi => CR.sumN_congr fun j _ => by unfold addR; rw [updR_ne _ _ hi]
    have e2 : (CR.sumN m fun j => addR A r s c r j * v j) = (CR.sumN m fun j => A r j * v j) + c * CR.sumN m fun j => A s j * v j := by
      rw [← sum_row]
      exact CR.sumN_congr fun j _ => by unfold addR; rw [updR_same]
    constructor
    · intro h i hi
      by_cases he : i = r
      · subst he
        rw [e2]
        exact Int.dvd_add (h i hi) (Int.dvd_mul_of_dvd_right (h s hs))
      · rw [e1 i he]; exact h i hi
    · intro h i hi
      have hss := h s hs
      rw [e1 s (fun e => hne e.symm)] at hss
      by_cases he : i = r
      · subst he
        have := h i hi
        rw [e2] at this
        exact (Int.dvd_add_left (Int.dvd_mul_of_dvd_right hss)).1 this
      · have := h i hi
        rwa [e1 i he] at this
  | col A r s c hr hs hne =>
    unfold solM
    rw [← sV_shift hq s m (fun v => ((c * v r) % (q : Int)).toNat) (solI n m q A) (fun v x => by show ((c * updV v s x r) % (q : Int)).toNat = _; rw [updV_ne _ _ hne]) hs]
    refine sV_congr fun v hv => solI_congr (forall_congr' fun i => imp_congr_right fun hi => ?_)
    rw [sum_upd hs]
    have e3 : (CR.sumN m fun j => turnM (addR (turnM A) r s c) i j * v j) = (CR.sumN m fun j => A i j * v j) + (c * A i s) * v r := by
      rw [← sum_col hr]
      refine CR.sumN_congr fun j _ => ?_
      have e4 : turnM (addR (turnM A) r s c) i j = if j = r then A i j + c * A i s else A i j := by
        show addR (turnM A) r s c j i = _
        unfold addR updR turnM
        split
        · next h => rw [h]
        · rfl
      rw [e4]
    rw [e3]
    have hy : ∃ t : Int, ((((v s).toNat + ((c * v r) % (q : Int)).toNat) % q : Nat) : Int) - v s = c * v r + (q : Int) * t := by
      have h0 := hv s
      have h1 := Int.emod_nonneg (c * v r) (show (q : Int) ≠ 0 by omega)
      have h2 : ((((v s).toNat + ((c * v r) % (q : Int)).toNat) % q : Nat) : Int) = (v s + (c * v r) % (q : Int)) % (q : Int) := by
        rw [Int.natCast_emod, Int.natCast_add, Int.toNat_of_nonneg h0, Int.toNat_of_nonneg h1]
      have h3 := Int.mul_ediv_add_emod (v s + (c * v r) % (q : Int)) q
      have h4 := Int.mul_ediv_add_emod (c * v r) q
      refine ⟨-((v s + (c * v r) % (q : Int)) / q) - (c * v r) / q, ?_⟩
      rw [h2, Int.mul_sub, Int.mul_neg]
      omega
    obtain ⟨t, ht⟩ := hy
    rw [ht, show A i s * (c * v r + (q : Int) * t) = c * A i s * v r + (q : Int) * (A i s * t) by grind, ← Int.add_assoc]
    exact Int.dvd_add_left (Int.dvd_mul_right _ _)
  | trans _ _ h1 h2 => exact h1.trans h2

/-! ### a diagonal matrix -/
def pN : Nat → (Nat → Nat) → Nat
  | 0, _ => 1
  | k + 1, f => pN k f * f k
theorem pN_congr {f g : Nat → Nat} : ∀ {k : Nat}, (∀ i, i < k → f i = g i) → pN k f = pN k g
  | 0, _ => rfl
  | k + 1, h => by show pN k f * f k = pN k g * g k; rw [pN_congr fun i hi => h i (by omega), h k (by omega)]
theorem pN_ind (c : Nat → Prop) [DecidablePred c] : ∀ k, pN k (fun i => if c i then 1 else 0) = if ∀ i, i < k → c i then 1 else 0
  | 0 => by rw [if_pos fun i hi => absurd hi (by omega)]; rfl
  | k + 1 => by
    show pN k (fun i => if c i then 1 else 0) * (if c k then 1 else 0) = _
    rw [pN_ind c k]
    by_cases h1 : ∀ i, i < k → c i
    · by_cases h2 : c k
      · rw [if_pos h1, if_pos h2, if_pos fun i hi => (by rcases Nat.lt_or_eq_of_le (Nat.lt_succ_iff.1 hi) with h | h; exact h1 i h; exact h ▸ h2)]
      · rw [if_pos h1, if_neg h2, if_neg fun h => h2 (h k (by omega))]
    · rw [if_neg h1, Nat.zero_mul, if_neg fun h => h1 fun i hi => h i (by omega)]
theorem sV_prod {q : Nat} (h : Nat → Int → Nat) : ∀ k, sV q k (fun v => pN k fun i => h i (v i)) = pN k fun i => sN q fun x => h i x
  | 0 => rfl
  | k + 1 => by
    show sN q (fun x => sV q k fun v => pN k (fun i => h i (updV v k x i)) * h k (updV v k x k)) = pN k (fun i => sN q fun x => h i x) * sN q fun x => h k x
    rw [← sV_prod h k, ← sN_mul']
    refine sN_congr fun x _ => ?_
    rw [← sV_mul]
    refine sV_congr fun v _ => ?_
    rw [updV_same]
    congr 1
    exact pN_congr fun i hi => by rw [updV_ne v _ (by omega)]
theorem sum_diag {m i : Nat} (s v : Nat → Int) : (CR.sumN m fun j => diagM s i j * v j) = if i < m then s i * v i else 0 := by
  by_cases h : i < m
  · rw [if_pos h, CR.sumN_single (R := Int) (f := fun j => diagM s i j * v j) h fun j _ hne => by unfold diagM; rw [if_neg (fun e => hne e.symm)]; simp]
    unfold diagM
    rw [if_pos rfl]
  · rw [if_neg h]
    exact CR.sumN_none fun j hj => by unfold diagM; rw [if_neg (by omega)]; simp
/-- Choices for element i. -/
def chN (n q : Nat) (s : Nat → Int) (i : Nat) : Nat := if i < n then Int.gcd (s i) q else q
theorem gcd_table : ∀ q : Nat, q < 14 → ∀ r : Nat, r < q → sN q (fun x => if r * x % q = 0 then 1 else 0) = Nat.gcd r q := by decide +kernel
theorem gcd_count {q : Nat} (hq : 0 < q) (h13 : q ≤ 13) (s : Int) : sN q (fun x => if (q : Int) ∣ s * (x : Int) then 1 else 0) = Int.gcd s q := by
  have h0 := Int.emod_nonneg s (show (q : Int) ≠ 0 by omega)
  have h1 := Int.emod_lt_of_pos s (show (0 : Int) < q by omega)
  obtain ⟨r, hr⟩ : ∃ r : Nat, s % (q : Int) = r := ⟨(s % q).toNat, by omega⟩
  have hd := Int.mul_ediv_add_emod s q
  have h2 : Int.gcd s q = Nat.gcd r q := by
    rw [← Int.gcd_natCast_natCast, ← hr]
    conv => lhs; rw [← hd, Int.add_comm]
    exact Int.gcd_add_mul_left_left _ _ _
  rw [h2, ← gcd_table q (by omega) r (by omega)]
  refine sN_congr fun x _ => ?_
  have h3 : (q : Int) ∣ s * (x : Int) ↔ r * x % q = 0 := by
    rw [← hd, hr, Int.add_mul, Int.mul_assoc, Int.dvd_add_right (Int.dvd_mul_right _ _), ← Int.natCast_mul, Int.natCast_dvd_natCast]
    exact ⟨Nat.mod_eq_zero_of_dvd, Nat.dvd_of_mod_eq_zero⟩
  simp only [h3]
theorem sN_one : ∀ n, sN n (fun _ => 1) = n
  | 0 => rfl
  | n + 1 => by show sN n _ + 1 = n + 1; rw [sN_one n]
theorem diag_sol {n m q : Nat} (hq : 0 < q) (h13 : q ≤ 13) (s : Nat → Int) : solM n m q (diagM s) = pN m (chN n q s) := by
  unfold solM
  have h : ∀ v : Nat → Int, solI n m q (diagM s) v = pN m fun i => if i < n → (q : Int) ∣ s i * v i then 1 else 0 := fun v => by
    rw [pN_ind]
    unfold solI
    have e : (∀ i, i < n → (q : Int) ∣ CR.sumN m fun j => diagM s i j * v j) ↔ ∀ i, i < m → i < n → (q : Int) ∣ s i * v i := by
      simp only [sum_diag]
      constructor
      · intro h i hm hn
        have := h i hn
        rwa [if_pos hm] at this
      · intro h i hn
        split
        · next hm => exact h i hm hn
        · exact Int.dvd_zero _
    simp only [e]
  rw [sV_congr fun v _ => h v, sV_prod fun i x => if i < n → (q : Int) ∣ s i * x then 1 else 0]
  refine pN_congr fun i _ => ?_
  unfold chN
  by_cases hi : i < n
  · rw [if_pos hi, ← gcd_count hq h13]
    exact sN_congr fun x _ => by simp only [hi, forall_const]
  · rw [if_neg hi]
    refine (sN_congr fun x _ => ?_).trans (sN_one q)
    rw [if_pos fun h => absurd h hi]
theorem solN_smith {xss : List (List Int)} {m q : Nat} (hq : 0 < q) (h13 : q ≤ 13) (hm : ∀ i, i < xss.length → (xss.getD i []).length = m) {s : Nat → Int} (h : El xss.length m (matF xss) (diagM s)) : solN xss m q = pN m (chN xss.length q s) := by
  rw [solN_solM hq hm, h.sol hq, diag_sol hq h13]
theorem pN_le {f : Nat → Nat} {b : Nat} : ∀ {k : Nat}, (∀ i, i < k → f i ≤ b) → pN k f ≤ b ^ k
  | 0, _ => Nat.le_refl _
  | k + 1, h => by
    show pN k f * f k ≤ _
    rw [Nat.pow_succ]
    exact Nat.mul_le_mul (pN_le fun i hi => h i (by omega)) (h k (by omega))
theorem chN_le {n q : Nat} (hq : 0 < q) (s : Nat → Int) (i : Nat) : chN n q s i ≤ q := by
  unfold chN
  split
  · exact Nat.le_of_dvd hq (by have := Int.gcd_dvd_right (a := s i) (b := (q : Int)); exact Int.natCast_dvd_natCast.1 this)
  · exact Nat.le_refl _
end Go.Proofs.YtgjblcfcbohjdaaDoor
