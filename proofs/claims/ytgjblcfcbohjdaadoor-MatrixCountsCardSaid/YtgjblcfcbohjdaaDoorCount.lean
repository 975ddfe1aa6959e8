/- Solutions modulo two numbers without common divisors are counted together. -/
import Derived.Test.YtgjblcfcbohjdaaDoorZeros
namespace Go.Proofs.YtgjblcfcbohjdaaDoor
set_option linter.unusedVariables false
set_option linter.unusedSimpArgs false
open Go.RowKit

def sN : Nat → (Nat → Nat) → Nat
  | 0, _ => 0
  | k + 1, f => sN k f + f k
theorem sN_congr {k : Nat} {f g : Nat → Nat} (h : ∀ i, i < k → f i = g i) : sN k f = sN k g := by
  induction k with
  | zero => rfl
  | succ k ih => show sN k f + f k = sN k g + g k; rw [ih fun i hi => h i (by omega), h k (by omega)]
theorem countP_split (a : Nat) (p : Nat → Bool) : ∀ b, (List.range (a * b)).countP p = sN b fun x => (List.range a).countP fun s => p (x * a + s)
  | 0 => rfl
  | b + 1 => by
    show _ = sN b _ + _
    rw [← countP_split a p b, Nat.mul_add, Nat.mul_one, List.range_add, List.countP_append, List.countP_map]
    congr 1
    refine List.countP_congr fun s _ => ?_
    rw [Nat.mul_comm]
    rfl

/-- The solutions of k columns with c on the left. -/
def cntS (xss : List (List Int)) (q : Nat) : Nat → (Nat → Int) → Nat
  | 0, c => if ∀ i, i < xss.length → c i % (q : Int) = 0 then 1 else 0
  | k + 1, c => sN q fun x => cntS xss q k fun i => c i + (x : Int) * matF xss i k

theorem digI_low {q k x s j : Nat} (hq : 0 < q) (hj : j < k) : digI q (x * q ^ k + s) j = digI q s j := by
  unfold digI
  obtain ⟨d, rfl⟩ : ∃ d, k = j + (d + 1) := ⟨k - j - 1, by omega⟩
  rw [show x * q ^ (j + (d + 1)) + s = s + q ^ j * (x * q ^ d * q) by rw [Nat.pow_add, Nat.pow_succ, Nat.add_comm]; congr 1; grind]
  rw [Nat.add_mul_div_left _ _ (Nat.pow_pos hq), Nat.add_mul_mod_self_right]
theorem digI_top {q k x s : Nat} (hq : 0 < q) (hx : x < q) (hs : s < q ^ k) : digI q (x * q ^ k + s) k = x := by
  unfold digI
  rw [show x * q ^ k + s = s + q ^ k * x by rw [Nat.add_comm, Nat.mul_comm], Nat.add_mul_div_left _ _ (Nat.pow_pos hq), Nat.div_eq_of_lt hs, Nat.zero_add, Nat.mod_eq_of_lt hx]
theorem cntS_eq (xss : List (List Int)) {q : Nat} (hq : 0 < q) : ∀ (k : Nat) (c : Nat → Int),
    (List.range (q ^ k)).countP (fun t => decide (∀ i, i < xss.length → (c i + CR.sumN k fun j => matF xss i j * digI q t j) % (q : Int) = 0)) = cntS xss q k c
  | 0, c => by
    rw [Nat.pow_zero]
    show List.countP _ [0] = _
    rw [List.countP_singleton]
    unfold cntS
    simp only [CR.sumN_zero, decide_eq_true_eq]
    simp
  | k + 1, c => by
    rw [Nat.pow_succ, countP_split]
    show _ = sN q fun x => cntS xss q k fun i => c i + (x : Int) * matF xss i k
    refine sN_congr fun x hx => ?_
    rw [← cntS_eq xss hq k]
    refine List.countP_congr fun s hs => ?_
    have hs := List.mem_range.1 hs
    simp only [decide_eq_true_eq]
    refine forall_congr' fun i => ?_
    refine imp_congr_right fun hi => ?_
    rw [CR.sumN_succ, digI_top hq hx hs]
    have h : (CR.sumN k fun j => matF xss i j * digI q (x * q ^ k + s) j) = CR.sumN k fun j => matF xss i j * digI q s j := CR.sumN_congr fun j hj => by rw [digI_low hq hj]
    rw [h]
    generalize (CR.sumN k fun j => matF xss i j * digI q s j) = S
    have e : c i + (S + matF xss i k * (x : Int)) = c i + (x : Int) * matF xss i k + S := by
      rw [Int.mul_comm (x : Int)]; omega
    rw [e]
theorem solN_cnt {xss : List (List Int)} {m q : Nat} (hq : 0 < q) (hm : ∀ i, i < xss.length → (xss.getD i []).length = m) : solN xss m q = cntS xss q m fun _ => 0 := by
  rw [← cntS_eq xss hq]
  unfold solN
  refine List.countP_congr fun t _ => ?_
  unfold solB
  rw [List.all_eq_true, decide_eq_true_eq]
  constructor
  · intro h i hi
    have e : xss.getD i [] = xss[i] := by simp [List.getD, List.getElem?_eq_getElem hi]
    have h2 := h (xss.getD i []) (by rw [e]; exact List.getElem_mem _)
    unfold dotI at h2
    rw [hm i hi] at h2
    rw [Int.zero_add]
    have h3 : (CR.sumN m fun j => (xss.getD i []).getD j 0 * digI q t j) % (q : Int) = 0 := eq_of_beq h2
    exact h3
  · intro h r hr
    obtain ⟨i, hi, rfl⟩ := List.getElem_of_mem hr
    have e : xss.getD i [] = xss[i] := by simp [List.getD, List.getElem?_eq_getElem hi]
    have h2 := h i hi
    rw [Int.zero_add] at h2
    unfold dotI
    rw [← e, hm i hi]
    have h3 : (CR.sumN m fun j => (xss.getD i []).getD j 0 * digI q t j) % (q : Int) = 0 := h2
    rw [h3]; rfl
theorem cntS_mod (xss : List (List Int)) (q : Nat) : ∀ (k : Nat) (c c' : Nat → Int), (∀ i, i < xss.length → c i % (q : Int) = c' i % (q : Int)) → cntS xss q k c = cntS xss q k c'
  | 0, c, c', h => by
    unfold cntS
    have : (∀ i, i < xss.length → c i % (q : Int) = 0) ↔ (∀ i, i < xss.length → c' i % (q : Int) = 0) := forall_congr' fun i => imp_congr_right fun hi => by rw [h i hi]
    simp only [this]
  | k + 1, c, c', h => by
    show sN q _ = sN q _
    refine sN_congr fun x _ => cntS_mod xss q k _ _ fun i hi => ?_
    rw [Int.add_emod, h i hi, ← Int.add_emod]

structure GoodPair (p q : Nat) : Prop where
  sum : ∀ F G : Nat → Nat, sN (p * q) (fun x => F (x % p) * G (x % q)) = sN p F * sN q G
  div : ∀ a : Int, a % ((p * q : Nat) : Int) = 0 ↔ a % (p : Int) = 0 ∧ a % (q : Int) = 0
theorem cnt_red (xss : List (List Int)) {p : Nat} (k x : Nat) (c : Nat → Int) : (cntS xss p k fun i => c i + (x : Int) * matF xss i k) = cntS xss p k fun i => c i + ((x % p : Nat) : Int) * matF xss i k := by
  refine cntS_mod xss p k _ _ fun i hi => ?_
  have h : (x : Int) = (p : Int) * ((x / p : Nat) : Int) + ((x % p : Nat) : Int) := by
    have := Nat.div_add_mod x p
    exact_mod_cast this.symm
  rw [show c i + (x : Int) * matF xss i k = (c i + ((x % p : Nat) : Int) * matF xss i k) + (p : Int) * (((x / p : Nat) : Int) * matF xss i k) by rw [h]; grind, Int.add_mul_emod_self_left]
theorem cntS_mul (xss : List (List Int)) {p q : Nat} (h : GoodPair p q) : ∀ (k : Nat) (c : Nat → Int), cntS xss (p * q) k c = cntS xss p k c * cntS xss q k c
  | 0, c => by
    unfold cntS
    have e : (∀ i, i < xss.length → c i % ((p * q : Nat) : Int) = 0) ↔ (∀ i, i < xss.length → c i % (p : Int) = 0) ∧ (∀ i, i < xss.length → c i % (q : Int) = 0) :=
      ⟨fun h1 => ⟨fun i hi => ((h.div _).1 (h1 i hi)).1, fun i hi => ((h.div _).1 (h1 i hi)).2⟩, fun h1 i hi => (h.div _).2 ⟨h1.1 i hi, h1.2 i hi⟩⟩
    simp only [e]
    by_cases h1 : ∀ i, i < xss.length → c i % (p : Int) = 0
    · by_cases h2 : ∀ i, i < xss.length → c i % (q : Int) = 0
      · rw [if_pos ⟨h1, h2⟩, if_pos h1, if_pos h2]
      · rw [if_neg (fun h => h2 h.2), if_pos h1, if_neg h2]
    · rw [if_neg (fun h => h1 h.1), if_neg h1, Nat.zero_mul]
  | k + 1, c => by
    show sN (p * q) _ = sN p _ * sN q _
    rw [← h.sum]
    refine sN_congr fun x _ => ?_
    rw [cntS_mul xss h k, cnt_red xss (p := p), cnt_red xss (p := q)]
theorem good23 : GoodPair 2 3 := ⟨fun F G => by simp [sN]; grind, fun a => by omega⟩
theorem good25 : GoodPair 2 5 := ⟨fun F G => by simp [sN]; grind, fun a => by omega⟩
theorem good34 : GoodPair 3 4 := ⟨fun F G => by simp [sN]; grind, fun a => by omega⟩
theorem good17 : GoodPair 1 7 := ⟨fun F G => by simp [sN]; grind, fun a => by omega⟩
theorem solN_mul {xss : List (List Int)} {m p q : Nat} (h : GoodPair p q) (hp : 0 < p) (hq : 0 < q) (hm : ∀ i, i < xss.length → (xss.getD i []).length = m) : solN xss m (p * q) = solN xss m p * solN xss m q := by
  rw [solN_cnt (Nat.mul_pos hp hq) hm, solN_cnt hp hm, solN_cnt hq hm, cntS_mul xss h]
theorem solN_pos {xss : List (List Int)} {m q : Nat} (hq : 0 < q) : 0 < solN xss m q := by
  unfold solN
  rw [List.countP_pos_iff]
  refine ⟨0, List.mem_range.2 (Nat.pow_pos hq), ?_⟩
  unfold solB
  rw [List.all_eq_true]
  intro r _
  have : dotI r (digI q 0) = 0 := by
    unfold dotI
    generalize r.length = n
    induction n with
    | zero => rfl
    | succ n ih => rw [CR.sumN_succ, ih, dig_zero]; simp
  rw [this]
  simp
theorem solN_le (xss : List (List Int)) (m q : Nat) : solN xss m q ≤ q ^ m := by
  unfold solN
  have h := List.countP_le_length (p := fun t => solB xss q t) (l := List.range (q ^ m))
  rwa [List.length_range] at h
end Go.Proofs.YtgjblcfcbohjdaaDoor
