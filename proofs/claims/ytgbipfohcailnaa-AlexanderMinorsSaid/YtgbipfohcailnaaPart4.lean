/- Several texts in one. -/
import Derived.Test.YtgbipfohcailnaaPart3
import Derived.Test.YtgbipfohcailnaaPart1
import Derived.Test.YtgbipfohcailnaaBase1
import Derived.Maps.RangeWalk
import Derived.Maps.Keyed
import Derived.Deep.DeepCutAuto
/- The determinant of the identity less a part of a Burau matrix is small (mathematics of stage 14). -/
namespace Go.Proofs.Ytgbipfohcailnaa
set_option linter.unusedVariables false
set_option linter.unusedSimpArgs false
open LP CR

/-- The determinant whose normal form is the Alexander polynomial. -/
noncomputable def adet (n : Nat) (w : List Int) : LP := detR (n - 1) fun i j => oneM i j + -(bu n w i j)
def mixQ (k : Nat) (q : List Nat) (A : Mtx LP) : Mtx LP := fun i => if i < k then stkR A (q.getD i 0) else fun j => oneM i j + -(A i j)
theorem mix_step {N k : Nat} {q : List Nat} (hk : k < N) (hN : N ≤ 5) (hq : q.length = k) (A : Mtx LP) :
    detR N (mixQ k q A) = detR N (mixQ (k + 1) (q ++ [100 + k]) A) + -detR N (mixQ (k + 1) (q ++ [k]) A) := by
  have g1 : ∀ p i, i < k → (q ++ [p]).getD i 0 = q.getD i 0 := fun p i hi => by
    simp only [List.getD, List.getElem?_append_left (show i < q.length by omega)]
  have g2 : ∀ p, (q ++ [p]).getD k 0 = p := fun p => by
    rw [← hq]; simp [List.getD]
  have e : ∀ p, detR N (mixQ (k + 1) (q ++ [p]) A) = detR N (updR (mixQ k q A) k (stkR A p)) := fun p => detR_congr fun i hi j _ => by
    unfold mixQ
    by_cases h1 : i = k
    · subst h1
      rw [updR_same, if_pos (by omega), g2]
    · rw [updR_ne _ _ h1]
      by_cases h2 : i < k
      · rw [if_pos (by omega), if_pos h2, g1 p i h2]
      · rw [if_neg (by omega), if_neg h2]
  have e0 : detR N (mixQ k q A) = detR N (updR (mixQ k q A) k fun j => stkR A (100 + k) j + (-1) * stkR A k j) := detR_congr fun i hi j _ => by
    by_cases h1 : i = k
    · subst h1
      rw [updR_same]
      unfold mixQ stkR
      rw [if_neg (by omega), if_neg (by omega), if_pos (by omega), show 100 + i - 100 = i by omega, CR.neg_mul, CR.one_mul]
    · rw [updR_ne _ _ h1]
  rw [e0, (detR_alt N).add _ k _ _ hk, (detR_alt N).smul _ k _ _ hk, e, e, CR.neg_mul, CR.one_mul]
def qs (k S : Nat) : List Nat := (List.range k).map fun i => if S.testBit i then i else 100 + i
def chkQs : Bool := (List.range 5).all fun k => (List.range (2 ^ k)).all fun S => (qs (k + 1) S == qs k S ++ [100 + k]) && ((qs (k + 1) (S + 2 ^ k) == qs k S ++ [k]) && ((popS S (k + 1) == popS S k) && (popS (S + 2 ^ k) (k + 1) == popS S k + 1)))
theorem chk_qs : chkQs = true := by decide +kernel
def chkG : Bool := (List.range 6).all fun N => (List.range (2 ^ N)).all fun S => goodB N S S
theorem chk_g : chkG = true := by decide +kernel
theorem good_self {N S : Nat} (hN : N ≤ 5) (hS : S < 2 ^ N) : goodB N S S = true := List.all_eq_true.1 (List.all_eq_true.1 chk_g N (List.mem_range.2 (by omega))) S (List.mem_range.2 hS)
theorem qs_at {k S : Nat} (hk : k < 5) (hS : S < 2 ^ k) : qs (k + 1) S = qs k S ++ [100 + k] ∧ qs (k + 1) (S + 2 ^ k) = qs k S ++ [k] ∧ popS S (k + 1) = popS S k ∧ popS (S + 2 ^ k) (k + 1) = popS S k + 1 := by
  have h := List.all_eq_true.1 (List.all_eq_true.1 chk_qs k (List.mem_range.2 hk)) S (List.mem_range.2 hS)
  obtain ⟨h1, h2⟩ := Bool.and_eq_true_iff.1 h
  obtain ⟨h2, h3⟩ := Bool.and_eq_true_iff.1 h2
  obtain ⟨h3, h4⟩ := Bool.and_eq_true_iff.1 h3
  exact ⟨by simpa using h1, by simpa using h2, by simpa using h3, by simpa using h4⟩
def bnd (b : Nat → Nat) : Nat → Nat → Nat
  | 0, t => b t
  | m + 1, t => bnd b m t + bnd b m (t + 1)
theorem mix_CE {N E : Nat} {b : Nat → Nat} {A : Mtx LP} (hN : N ≤ 5) (h : ∀ S, S < 2 ^ N → CE (wST N S S A) E (b (popS S N))) : ∀ (m k S : Nat), k + m = N → S < 2 ^ k → CE (detR N (mixQ k (qs k S) A)) E (bnd b m (popS S k))
  | 0, k, S, hk, hS => by
    have hk : k = N := hk
    subst hk
    have e : detR k (mixQ k (qs k S) A) = wST k S S A := detR_congr fun i hi j _ => by
      unfold mixQ matQ
      rw [if_pos hi, qST_self hN hS (good_self hN hS) hi]
      simp [qs, List.getD, hi]
    rw [e]
    exact h S hS
  | m + 1, k, S, hk, hS => by
    obtain ⟨e1, e2, e3, e4⟩ := qs_at (show k < 5 by omega) hS
    rw [mix_step (by omega) hN (by simp [qs]), ← e1, ← e2]
    have h1 := mix_CE hN h m (k + 1) S (by omega) (by rw [Nat.pow_succ]; omega)
    have h2 := mix_CE hN h m (k + 1) (S + 2 ^ k) (by omega) (by rw [Nat.pow_succ]; omega)
    rw [e3] at h1
    rw [e4] at h2
    exact h1.add h2.neg
theorem adet_mix {N : Nat} (hN : N ≤ 5) {w : List Int} (hw : okB (N + 1) w) : adet (N + 1) w = detR N (mixQ 0 (qs 0 0) (opW w oneM)) := detR_congr fun i hi j hj => by
  show oneM i j + -(bu (N + 1) w i j) = oneM i j + -(opW w oneM i j)
  rw [bu_op hw i (by omega) j (by omega)]
/-- Words of at most 16 letters: coefficients below 10^8. -/
theorem adet_16 {N : Nat} (hN : N ≤ 5) {w : List Int} (hw : okB (N + 1) w) (hl : w.length ≤ 16) : CE (adet (N + 1) w) 16 75626922 := by
  rw [adet_mix hN hw]
  refine (mix_CE hN (E := 16) (b := fun t => k3 t ^ 4 * (k1 t * 3)) (fun S hS => Bd.w16 hN hS hw hl S (good_self hN hS)) N 0 0 (by omega) (by omega)).mono (Nat.le_refl _) ?_
  have : N = 0 ∨ N = 1 ∨ N = 2 ∨ N = 3 ∨ N = 4 ∨ N = 5 := by omega
  rcases this with rfl | rfl | rfl | rfl | rfl | rfl <;> decide
theorem CE.sm {x : LP} {E V : Nat} (h : CE x E V) : Sm x (-(E : Int)) E V := ⟨fun k hk => by have := h.ex k hk; omega, h.cf⟩
theorem CE.rt {x : LP} {E V : Nat} (h : CE x E V) (h1 : E ≤ 99) (h2 : V ≤ 100000000) : Rt x := h.sm.pfl (by omega) (by omega) (by omega) h2
end Go.Proofs.Ytgbipfohcailnaa
/- What package alexander is to answer. -/
namespace Go.Proofs.Ytgbipfohcailnaa
set_option linter.unusedVariables false
set_option linter.unusedSimpArgs false
open Go.RowKit

def alE (n : Int) (w : List Int) : Int := if bfault n w ≠ 0 then bfault n w else if 20 < w.length then 2 else 0
/-- The coefficients of the Alexander polynomial (its lowest exponent is 0). -/
noncomputable def alP (n : Int) (w : List Int) : List Int := if alE n w = 0 then LP.normC (LP.canon (adet n.toNat w)).2 else []
/-- The value at -1 of the first coefficients. -/
def altP (cs : List Int) : Nat → Int
  | 0 => 0
  | k + 1 => altP cs k + cs.getD k 0 * (1 - 2 * ((k : Int) % 2))
noncomputable def alD (n : Int) (w : List Int) : Int := (altP (alP n w) (alP n w).length).natAbs
/-- What is asked of the package: words of up to 16 letters, on two strands of up to 20 (no statement calls it with more). -/
def alF (n : Int) (w : List Int) : Prop := alE n w = 0 → w.length ≤ 16 ∨ n ≤ 2
theorem alF_2 {w : List Int} : alF 2 w := fun _ => .inr (Int.le_refl 2)
theorem alF_short {n : Int} {w : List Int} (h : w.length ≤ 16) : alF n w := fun _ => .inl h
theorem alF_bad {n : Int} {w : List Int} (h : alE n w ≠ 0) : alF n w := fun h0 => absurd h0 h
/-- Package alexander, as the document asks. -/
structure AlexC : Prop where
  poly : ∀ (m : Int) (A : Option Addr) (n c : Nat) (xs : List Int) (w : World), SL w A n c xs → (Lit.int .i64 m).wf = true → alF m xs → Calls Try.prog 4 #[.int .i64 m, .slice A n c] w (GivesPE w (alE m xs, 0, alP m xs)) -- 4
  det : ∀ (m : Int) (A : Option Addr) (n c : Nat) (xs : List Int) (w : World), SL w A n c xs → (Lit.int .i64 m).wf = true → alF m xs → Calls Try.prog 7 #[.int .i64 m, .slice A n c] w fun e w' => e = .returned (.tuple #[.int .i64 (alD m xs), .int .i64 (alE m xs)]) ∧ Below w.heap.size w w' -- 7
theorem adet_one {w : List Int} (hw : okB 2 w) : adet 2 w = 1 + -(LP.mk ((w.foldr stepL (unitC 2 0)).getD 0 [])) := by
  have e : adet 2 w = detR 1 fun i j => oneM i j + -(bu 2 w i j) := rfl
  rw [e, ← bu_col (n := 2) (c := 0) (by omega) hw 0 (by omega), ← bu_op hw 0 (by omega) 0 (by omega)]
  show CR.sumN 1 (fun j => CR.sgR LP j * ((oneM 0 j + -(bu 2 w 0 j)) * 1)) = _
  rw [CR.sumN_succ]
  show CR.sumN 0 _ + CR.sgR LP 0 * ((oneM 0 0 + -(bu 2 w 0 0)) * 1) = _
  rw [CR.mul_one]
  show 0 + 1 * (1 + -(bu 2 w 0 0)) = _
  rw [CR.zero_add, CR.one_mul]
theorem ok_111 : okB 2 [1, 1, 1] := fun x hx => by simp at hx; subst hx; decide
theorem al_111 : alE 2 [1, 1, 1] = 0 ∧ alP 2 [1, 1, 1] = [1, -1, 1] ∧ alD 2 [1, 1, 1] = 3 := by
  have h1 : alE 2 [1, 1, 1] = 0 := by decide
  have h2 : alP 2 [1, 1, 1] = [1, -1, 1] := by
    unfold alP
    rw [if_pos h1, show (2 : Int).toNat = 2 from rfl, adet_one ok_111]
    have e : LP.canon (1 + -(LP.mk (([1, 1, 1].foldr stepL (unitC 2 0)).getD 0 []))) = (1, [1, -1, 1]) := by
      refine LP.canon_eq (.inr ⟨by simp, by decide, by decide⟩) ?_
      refine LP.ext fun k => ?_
      rw [LP.co_add, LP.co_neg, LP.co_one, LP.co_mk]
      show LP.co (LP.term 1 1 + (LP.term (1 + 1) (-1) + (LP.term (1 + 1 + 1) 1 + 0))) k = _
      rw [LP.co_add, LP.co_add, LP.co_add, LP.co_term, LP.co_term, LP.co_term, LP.co_zero]
      rw [show ([1, 1, 1].foldr stepL (unitC 2 0)).getD 0 [] = ([1, 1, 1].foldr stepL (unitC 2 0)).getD 0 [] from rfl]
      obtain ⟨l, hl⟩ : ∃ l, ([1, 1, 1].foldr stepL (unitC 2 0)).getD 0 [] = l := ⟨_, rfl⟩
      have hl2 := hl
      rw [show ([1, 1, 1].foldr stepL (unitC 2 0)).getD 0 [] = [(1, -1), (2, 1), (0, 1), (3, -1)] from by decide +kernel] at hl2
      rw [hl, ← hl2]
      show _ = (if (0 : Int) = k then (1 : Int) else 0) + -((if (1 : Int) = k then (-1 : Int) else 0) + ((if (2 : Int) = k then (1 : Int) else 0) + ((if (0 : Int) = k then (1 : Int) else 0) + ((if (3 : Int) = k then (-1 : Int) else 0) + 0))))
      grind
    rw [e]
    decide
  refine ⟨h1, h2, ?_⟩
  unfold alD
  rw [h2]
  decide
theorem alE_bad {n : Int} {w : List Int} (h : bfault n w ≠ 0) : alE n w = bfault n w := by unfold alE; rw [if_pos h]
theorem alE_long {n : Int} {w : List Int} (h : bfault n w = 0) (hl : 20 < w.length) : alE n w = 2 := by unfold alE; rw [h, if_neg (by simp), if_pos hl]
theorem alE_ok {n : Int} {w : List Int} (h : bfault n w = 0) (hl : w.length ≤ 20) : alE n w = 0 := by unfold alE; rw [h, if_neg (by simp), if_neg (by omega)]
theorem alP_bad {n : Int} {w : List Int} (h : alE n w ≠ 0) : alP n w = [] ∧ alD n w = 0 := by
  have e : alP n w = [] := by unfold alP; rw [if_neg h]
  exact ⟨e, by unfold alD; rw [e]; rfl⟩
theorem normC_mem {cs : List Int} {M : Nat} (h : ∀ c ∈ cs, c.natAbs ≤ M) : ∀ c ∈ LP.normC cs, c.natAbs ≤ M := fun c hc => by
  unfold LP.normC at hc
  obtain ⟨z, hz, rfl⟩ := List.mem_map.1 hc
  have := h z hz
  unfold LP.sgL
  split <;> omega
theorem altP_le {cs : List Int} {M : Nat} (h : ∀ c ∈ cs, c.natAbs ≤ M) : ∀ k, (altP cs k).natAbs ≤ k * M
  | 0 => by simp [altP]
  | k + 1 => by
    have h1 := altP_le h k
    have h2 : (cs.getD k 0).natAbs ≤ M := by
      by_cases hk : k < cs.length
      · rw [show cs.getD k 0 = cs[k] by simp [List.getD, hk]]; exact h _ (List.getElem_mem _)
      · rw [show cs.getD k 0 = 0 by simp [List.getD, Nat.le_of_not_lt hk]]; exact Nat.zero_le _
    have h3 : (cs.getD k 0 * (1 - 2 * ((k : Int) % 2))).natAbs ≤ M := by
      rw [Int.natAbs_mul]
      have : (1 - 2 * ((k : Int) % 2)).natAbs = 1 := by omega
      rw [this, Nat.mul_one]; exact h2
    show (altP cs k + cs.getD k 0 * (1 - 2 * ((k : Int) % 2))).natAbs ≤ (k + 1) * M
    rw [Nat.succ_mul]
    omega
theorem canon_mem {x : LP} {E V : Nat} (h : CE x E V) : (LP.canon x).2.length ≤ 2 * E + 1 ∧ ∀ c ∈ (LP.canon x).2, c.natAbs ≤ V := by
  have hc := LP.canon_cano x
  have ho := LP.of_canon x
  refine ⟨?_, fun c hcm => ?_⟩
  · by_cases hn : (LP.canon x).2 = []
    · rw [hn]; simp
    · have h1 := hc.low hn
      have h2 := hc.high hn
      rw [ho] at h1 h2
      have h3 := h.ex _ h1
      have h4 := h.ex _ h2
      omega
  · obtain ⟨k, hk, e⟩ := List.mem_iff_getElem.1 hcm
    have h1 := h.cf ((LP.canon x).1 + k)
    have e3 := LP.co_of_at (lo := (LP.canon x).1) hk
    rw [ho] at e3
    rw [e3, getD_of_lt 0 hk, e] at h1
    exact h1
section
open CR
theorem altP_sum (cs : List Int) : ∀ k, altP cs k = CR.sumN k fun i => cs.getD i 0 * LP.pw true (i : Int)
  | 0 => rfl
  | k + 1 => by
    rw [CR.sumN_succ]
    show altP cs k + cs.getD k 0 * (1 - 2 * ((k : Int) % 2)) = _
    rw [altP_sum cs k]
    congr 1
    unfold LP.pw
    have : (k : Int) % 2 = 0 ∨ (k : Int) % 2 = 1 := by omega
    rcases this with h | h
    · rw [if_neg (by simp [h]), h]
      show _ * (1 - 2 * 0) = _ * 1
      omega
    · rw [if_pos ⟨rfl, by omega⟩, h]
      show _ * (1 - 2 * 1) = _ * (-1)
      omega
theorem ev_of0 (cs : List Int) : LP.ev true (LP.of 0 cs) = altP cs cs.length := by
  rw [altP_sum]
  unfold LP.ev
  rw [LP.lin_of]
  exact CR.sumN_congr fun i hi => by rw [Int.zero_add]
end
end Go.Proofs.Ytgbipfohcailnaa
/- Maps from integers to integers as lists of terms; a range over one, whatever its order. -/
namespace Go.Proofs.Ytgbipfohcailnaa
set_option linter.unusedVariables false
set_option linter.unusedSimpArgs false
open Go.RowKit Go.Maps

theorem keyI : Keyed Try.prog 3 := int_keyed Try.underlying3
theorem keyI_mk {x : Int} (h : (Lit.int .i64 x).wf = true) : keyOf Try.prog 3 (.int .i64 x) = some (.int .i64 x) := keyOf_int_mk Try.underlying3 h
theorem wfI {x : Int} (h : x.natAbs ≤ 4000000000000000000) : (Lit.int .i64 x).wf = true := by
  have h1 : IntKind.i64.min = -9223372036854775808 := by decide
  simp [Lit.wf, h1]
  omega
/-- The element at a key. -/
def lookT : List Tm → Int → Option Int
  | [], _ => none
  | (e, c) :: l, x => if e = x then some c else lookT l x
def lookV (o : List Tm) : Value → Option Value
  | .int .i64 x => (lookT o x).map (Value.int .i64)
  | _ => none
theorem lookT_none : ∀ {o : List Tm} {x : Int}, lookT o x = none ↔ ∀ p ∈ o, p.1 ≠ x
  | [], x => by simp [lookT]
  | (e, c) :: l, x => by
    unfold lookT
    by_cases h : e = x
    · rw [if_pos h]; simp [h]
    · rw [if_neg h, lookT_none]; simp [h]
theorem lookT_mem : ∀ {o : List Tm} {x c : Int}, lookT o x = some c → (x, c) ∈ o
  | [], x, c, h => by cases h
  | (e, d) :: l, x, c, h => by
    unfold lookT at h
    by_cases he : e = x
    · rw [if_pos he] at h
      injection h with h
      subst he; subst h
      exact List.mem_cons_self
    · rw [if_neg he] at h
      exact List.mem_cons_of_mem _ (lookT_mem h)
theorem lookT_of_mem : ∀ {o : List Tm} {x c : Int}, (o.map (·.1)).Nodup → (x, c) ∈ o → lookT o x = some c
  | (e, d) :: l, x, c, hn, h => by
    have hn' := List.nodup_cons.1 hn
    unfold lookT
    rcases List.mem_cons.1 h with h | h
    · injection h with h1 h2
      subst h1; subst h2
      rw [if_pos rfl]
    · have : e ≠ x := fun e' => hn'.1 (by rw [e']; exact List.mem_map.2 ⟨(x, c), h, rfl⟩)
      rw [if_neg this]
      exact lookT_of_mem hn'.2 h
theorem coefT_not {o : List Tm} {x : Int} (h : ∀ p ∈ o, p.1 ≠ x) : coefT o x = 0 := by
  induction o with
  | nil => rfl
  | cons p l ih =>
    show (if p.1 = x then p.2 else 0) + coefT l x = 0
    rw [if_neg (h p (by simp)), ih fun q hq => h q (by simp [hq])]
    rfl
theorem coefT_look : ∀ {o : List Tm} {x : Int}, (o.map (·.1)).Nodup → coefT o x = (lookT o x).getD 0
  | [], x, _ => rfl
  | (e, d) :: l, x, hn => by
    have hn' := List.nodup_cons.1 hn
    show (if e = x then d else 0) + coefT l x = _
    unfold lookT
    by_cases h : e = x
    · rw [if_pos h, if_pos h, coefT_not fun p hp e' => hn'.1 (by rw [h, ← e']; exact List.mem_map.2 ⟨p, hp, rfl⟩)]
      show d + 0 = d
      omega
    · rw [if_neg h, if_neg h, coefT_look hn'.2, Int.zero_add]
/-- v is put at x. -/
def putT : List Tm → Int → Int → List Tm
  | [], x, v => [(x, v)]
  | (e, c) :: l, x, v => if e = x then (x, v) :: l else (e, c) :: putT l x v
theorem putT_keys : ∀ (o : List Tm) (x v : Int), ∀ p ∈ putT o x v, p ∈ o ∨ p = (x, v)
  | [], x, v, p, h => .inr (by simpa [putT] using h)
  | (e, c) :: l, x, v, p, h => by
    unfold putT at h
    by_cases he : e = x
    · rw [if_pos he] at h
      rcases List.mem_cons.1 h with h | h
      · exact .inr h
      · exact .inl (List.mem_cons_of_mem _ h)
    · rw [if_neg he] at h
      rcases List.mem_cons.1 h with h | h
      · exact .inl (by rw [h]; exact List.mem_cons_self)
      · rcases putT_keys l x v p h with h | h
        · exact .inl (List.mem_cons_of_mem _ h)
        · exact .inr h
theorem putT_look : ∀ (o : List Tm) (x v y : Int), lookT (putT o x v) y = if y = x then some v else lookT o y
  | [], x, v, y => by
    show (if x = y then some v else none) = if y = x then some v else none
    by_cases h : x = y
    · rw [if_pos h, if_pos h.symm]
    · rw [if_neg h, if_neg fun e => h e.symm]
  | (e, c) :: l, x, v, y => by
    unfold putT
    by_cases he : e = x
    · rw [if_pos he]
      show (if x = y then some v else lookT l y) = if y = x then some v else if e = y then some c else lookT l y
      by_cases h : x = y
      · rw [if_pos h, if_pos h.symm]
      · rw [if_neg h, if_neg fun e' => h e'.symm, if_neg (by omega)]
    · rw [if_neg he]
      show (if e = y then some c else lookT (putT l x v) y) = if y = x then some v else if e = y then some c else lookT l y
      rw [putT_look l x v y]
      by_cases h : e = y
      · rw [if_pos h, if_pos h, if_neg (by omega)]
      · rw [if_neg h, if_neg h]
theorem putT_nodup : ∀ (o : List Tm) (x v : Int), (o.map (·.1)).Nodup → ((putT o x v).map (·.1)).Nodup
  | [], x, v, _ => by simp [putT]
  | (e, c) :: l, x, v, h => by
    have h' := List.nodup_cons.1 h
    unfold putT
    by_cases he : e = x
    · rw [if_pos he]
      subst he
      exact h
    · rw [if_neg he]
      refine List.nodup_cons.2 ⟨fun hm => ?_, putT_nodup l x v h'.2⟩
      obtain ⟨p, hp, e1⟩ := List.mem_map.1 hm
      rcases putT_keys l x v p hp with h1 | h1
      · exact h'.1 (by rw [← show p.1 = e from e1]; exact List.mem_map.2 ⟨p, h1, rfl⟩)
      · rw [h1] at e1
        exact he e1.symm
theorem putT_length : ∀ (o : List Tm) (x v : Int), (putT o x v).length = if (lookT o x).isSome then o.length else o.length + 1
  | [], x, v => rfl
  | (e, c) :: l, x, v => by
    unfold putT lookT
    by_cases he : e = x
    · rw [if_pos he, if_pos he]; rfl
    · rw [if_neg he, if_neg he]
      show (putT l x v).length + 1 = _
      rw [putT_length l x v]
      split <;> rfl
theorem coefT_put {o : List Tm} {x v : Int} (h : (o.map (·.1)).Nodup) (y : Int) : coefT (putT o x v) y = if y = x then v else coefT o y := by
  rw [coefT_look (putT_nodup o x v h), putT_look, coefT_look h]
  split <;> rfl
/-- Distinct keys from a small range are few. -/
theorem nodup_leT {o : List Tm} {E : Nat} (h : (o.map (·.1)).Nodup) (hk : ∀ p ∈ o, p.1.natAbs ≤ E) : o.length ≤ 2 * E + 1 := by
  have h1 : (o.map fun p : Tm => (p.1 + (E : Int)).toNat).Nodup := by
    rw [show (o.map fun p : Tm => (p.1 + (E : Int)).toNat) = (o.map (·.1)).map fun x : Int => (x + (E : Int)).toNat by rw [List.map_map]; rfl]
    unfold List.Nodup at h ⊢
    rw [List.pairwise_map]
    refine h.imp_of_mem fun {a b} ha hb hne e => hne ?_
    obtain ⟨p, hp, rfl⟩ := List.mem_map.1 ha
    obtain ⟨q, hq, rfl⟩ := List.mem_map.1 hb
    have := hk p hp
    have := hk q hq
    have e : (p.1 + (E : Int)).toNat = (q.1 + (E : Int)).toNat := e
    show p.1 = q.1
    omega
  have h2 := nodup_length_le (2 * E + 1) _ h1 fun x hx => by
    obtain ⟨p, hp, rfl⟩ := List.mem_map.1 hx
    have := hk p hp
    show (p.1 + (E : Int)).toNat < 2 * E + 1
    omega
  simpa using h2

/-- Block b is a map with just the entries o. -/
structure MapI (w : World) (b : Nat) (o : List Tm) : Prop where
  dict : Dict Try.prog 3 w b o.length (lookV o)
  nodup : (o.map (·.1)).Nodup
section
variable {w w' : World} {b : Nat} {o : List Tm}
theorem MapI.lt (h : MapI w b o) : b < w.heap.size := h.dict.lt
theorem MapI.below (h : MapI w b o) (hb : Below w.heap.size w w') : MapI w' b o := ⟨h.dict.below hb, h.nodup⟩
theorem MapI.kept {row : Option Nat} (h : MapI w b o) (hg : w.grownBy w' row) (hne : some b ≠ row) : MapI w' b o := ⟨h.dict.kept hg hne, h.nodup⟩
theorem MapI.made (w : World) : MapI (w.alloc (.map #[] 0)) w.heap.size [] := ⟨(Dict.made w _ _).congr rfl fun key kl _ => by unfold lookV; split <;> rfl, List.nodup_nil⟩
theorem MapI.look (h : MapI w b o) {t : TypeId} (ht : Try.prog.underlying t = some (.map 3 3)) {x : Int} (hx : (Lit.int .i64 x).wf = true) :
    (Instr.lookup t (.map (some b)) (.int .i64 x) false).run Try.prog w = .ok (.int .i64 (coefT o x)) w := by
  rw [h.dict.look keyI ht (z := .int .i64 0) (by kernel_rfl) (keyI_mk hx), coefT_look h.nodup]
  have e : lookV o (.int .i64 x) = (lookT o x).map (Value.int .i64) := rfl
  rw [e]
  cases lookT o x <;> rfl
theorem MapI.store (h : MapI w b o) {t : TypeId} (ht : Try.prog.underlying t = some (.map 3 3)) {x v : Int} (hx : (Lit.int .i64 x).wf = true) (hn : o.length < 1000000) :
    ∃ w', (Instr.mapUpdate t (.map (some b)) (.int .i64 x) (.int .i64 v)).run Try.prog w = .ok () w' ∧ MapI w' b (putT o x v) ∧ w.grownBy w' (some b) ∧ w'.heap.size = w.heap.size := by
  obtain ⟨w', h1, h2, h3, h4⟩ := h.dict.store keyI ht (by unfold maxLen; omega) (keyI_mk hx) (.int .i64 v) (f' := lookV (putT o x v)) (by
    show ((lookT (putT o x v) x).map _) = _
    rw [putT_look, if_pos rfl]; rfl) (fun y l hy hne => by
    obtain ⟨z, rfl, _, _⟩ := keyOf_int_inv Try.underlying3 hy
    show ((lookT (putT o x v) z).map _) = (lookT o z).map _
    rw [putT_look, if_neg fun e => hne (by rw [e])])
  refine ⟨w', h1, ⟨h2.congr ?_ fun _ _ _ => rfl, putT_nodup o x v h.nodup⟩, h3, h4⟩
  rw [putT_length]
  show (if ((lookT o x).map (Value.int .i64)).isSome = true then _ else _) = _
  rw [Option.isSome_map]
end

/-! ### a range -/
/-- A range over the map with entries T: done and rem(aining). -/
structure RangeI (w : World) (b r : Nat) (T done rem : List Tm) (cnt : Nat) : Prop where
  nodup : (T.map (·.1)).Nodup
  perm : (done ++ rem).Perm T
  run : ∃ (n : Nat) (D : DataW Value) (left : Lit → Bool), w.ranges Try.prog 3 HR b r n D left cnt ∧ (∀ p ∈ T, ∀ z, D.atKey (.int .i64 p.1) z = .held (.int .i64 p.2)) ∧ (∀ x : Int, (Lit.int .i64 x).wf = true → (left (.int .i64 x) = true ↔ ∃ c, (x, c) ∈ rem)) ∧ ∀ p ∈ T, (Lit.int .i64 p.1).wf = true
section
variable {w w' : World} {b r cnt : Nat} {T done rem : List Tm}
theorem RangeI.kept {row : Option Nat} (h : RangeI w b r T done rem cnt) (hg : w.grownBy w' row) (hb : some b ≠ row) (hr : some r ≠ row) : RangeI w' b r T done rem cnt := by
  obtain ⟨n, D, left, h1, h2⟩ := h.run
  exact ⟨h.nodup, h.perm, n, D, left, h1.kept hg hb hr, h2⟩
theorem RangeI.left_eq (h : RangeI w b r T done rem cnt) : w.rangeLeft b r = cnt := by
  obtain ⟨n, D, left, h1, _⟩ := h.run
  exact h1.left_eq
theorem RangeI.lt (h : RangeI w b r T done rem cnt) : r < w.heap.size := by
  obtain ⟨n, D, left, h1, _⟩ := h.run
  exact h1.lt
theorem RangeI.mem (h : RangeI w b r T done rem cnt) : ∀ p ∈ done, p ∈ T := fun p hp => h.perm.subset (List.mem_append_left _ hp)
end
section
variable (w : World) {ops : Array Oper} {rest : List Oper} {o : Oper} {a : Act} {Q : Exit → Act → World → Prop}
theorem wpList_rangeI (hg : o.guard = none) (m : Operand) (t : TypeId) (hop : o.op = Op.range t m) (ht : Try.prog.underlying t = some (.map 3 3)) (b : Nat) (T : List Tm) (hm : a.eval m = .map (some b)) (h : MapI w b T) (hwf : ∀ p ∈ T, (Lit.int .i64 p.1).wf = true)
    (hK : ∀ w' cnt, RangeI w' b w.heap.size T [] T cnt → w.grownBy w' none → w'.heap.size = w.heap.size + 1 → wpList Try.prog ops Q rest (a.put o.dst (.pointer (some ⟨w.heap.size, 0, none⟩))) w') :
    wpList Try.prog ops Q (o :: rest) a w := by
  obtain ⟨D, hD, hT, hs, hf⟩ := h.dict.own
  refine wpList_range_own w hg m t hop 3 3 keyI ht HR b _ D hm hD fun w' hr hgr hsz => hK w' _ ⟨h.nodup, by simp, _, D, Maps.has D, hr, fun p hp z => ?_, fun x hx => ?_, hwf⟩ hgr hsz
  · have := hf (.int .i64 p.1) _ (keyI_mk (hwf p hp))
    have e : lookV T (.int .i64 p.1) = some (.int .i64 p.2) := by
      show (lookT T p.1).map _ = _
      rw [lookT_of_mem h.nodup (show (p.1, p.2) ∈ T from hp)]; rfl
    rw [e] at this
    exact this.2 z
  · have := hf (.int .i64 x) _ (keyI_mk hx)
    have e : lookV T (.int .i64 x) = (lookT T x).map (Value.int .i64) := rfl
    rw [e] at this
    cases hl : lookT T x with
    | none =>
      rw [hl] at this
      have this : Maps.has D (.int .i64 x) = false := this
      rw [this]
      have h0 := lookT_none.1 hl
      exact ⟨fun h => (by cases h), fun ⟨c, hc⟩ => absurd rfl (h0 _ hc)⟩
    | some c =>
      rw [hl] at this
      have this : Maps.has D (.int .i64 x) = true ∧ _ := this
      exact ⟨fun _ => ⟨c, lookT_mem hl⟩, fun _ => this.1⟩
theorem wpList_nextI (hg : o.guard = none) (it : Operand) (hop : o.op = Op.next it false) (b r : Nat) (T done rem : List Tm) (cnt : Nat) (hit : a.eval it = .pointer (some ⟨r, 0, none⟩)) (h : RangeI w b r T done rem cnt)
    (hDone : rem = [] → wpList Try.prog ops Q rest (a.put o.dst (.tuple #[.bool false])) w)
    (hMore : ∀ (x c : Int) (rem' : List Tm) (w' : World) (cnt' : Nat), rem.Perm ((x, c) :: rem') → RangeI w' b r T (done ++ [(x, c)]) rem' cnt' → cnt' < cnt → w.grownBy w' (some r) → w'.heap.size = w.heap.size →
      (Instr.entry (.pointer (some ⟨r, 0, none⟩))).run Try.prog w' = .ok (.tuple #[.int .i64 x, .int .i64 c]) w' → wpList Try.prog ops Q rest (a.put o.dst (.tuple #[.bool true, .int .i64 x, .int .i64 c])) w') :
    wpList Try.prog ops Q (o :: rest) a w := by
  obtain ⟨n, D, left, h1, h2, h3, h4⟩ := h.run
  refine wpList_next_ranges w hg it hop 3 keyI HR (fun v : Value => v) (fun v : Value => v) (fun key kl _ => ⟨key, rfl⟩) (fun v y _ => ⟨v, rfl⟩) b r n D left cnt hit h1 (fun _ hl => hDone ?_) ?_
  · match rem, h3, h.perm with
    | [], _, _ => rfl
    | (x, c) :: l, h3, hp =>
      have hx := h4 _ (hp.subset (List.mem_append_right _ List.mem_cons_self))
      have := (h3 x hx).2 ⟨c, List.mem_cons_self⟩
      rw [hl] at this
      cases this
  · intro key v kl y w' cnt' hkey hlk hv hat hrg hlt hgr hsz hen
    obtain ⟨x, rfl, rfl, hx⟩ := keyOf_int_inv Try.underlying3 hkey
    obtain ⟨c, hc⟩ := (h3 x hx).1 hlk
    have hmT : (x, c) ∈ T := h.perm.subset (List.mem_append_right _ hc)
    have hvy := HR_inv (v := v) (d := y.1) (ps := y.2) hv
    have e1 := h2 _ hmT (.held v)
    rw [hat, hvy] at e1
    injection e1 with e1
    subst e1
    obtain ⟨l1, l2, hl⟩ := List.append_of_mem hc
    have hp2 : rem.Perm ((x, c) :: (l1 ++ l2)) := by rw [hl]; exact List.perm_middle
    have hperm : (done ++ [(x, c)] ++ (l1 ++ l2)).Perm T := by
      refine List.Perm.trans ?_ h.perm
      rw [List.append_assoc]
      exact List.Perm.append_left done hp2.symm
    have hnd : ((done ++ [(x, c)] ++ (l1 ++ l2)).map (·.1)).Nodup := (hperm.map (·.1)).nodup_iff.2 h.nodup
    refine hMore x c (l1 ++ l2) w' cnt' hp2 ⟨h.nodup, hperm, n, D, _, hrg, h2, fun z hz => ?_, h4⟩ hlt hgr hsz hen
    show (left (.int .i64 z) && !(Lit.int .i64 z).sameKey (.int .i64 x)) = true ↔ _
    have hnx : ∀ d, (x, d) ∉ l1 ++ l2 := fun d hd => by
      rw [List.map_append, List.map_append] at hnd
      have h5 := (List.nodup_append.1 hnd).2.2 x (List.mem_append_right _ (by simp)) x (List.mem_map.2 ⟨(x, d), hd, rfl⟩)
      exact h5 rfl
    by_cases e : z = x
    · subst e
      have : (Lit.int .i64 z).sameKey (.int .i64 z) = true := by simp [Lit.sameKey]
      rw [this]
      simp only [Bool.not_true, Bool.and_false]
      exact ⟨fun h => (by cases h), fun ⟨d, hd⟩ => absurd hd (hnx d)⟩
    · have : (Lit.int .i64 z).sameKey (.int .i64 x) = false := by simp [Lit.sameKey, e]
      rw [this]
      simp only [Bool.not_false, Bool.and_true]
      rw [h3 z hz]
      constructor
      · rintro ⟨d, hd⟩
        refine ⟨d, ?_⟩
        rcases List.mem_cons.1 (hp2.subset hd) with h | h
        · injection h with h _; exact absurd h e
        · exact h
      · rintro ⟨d, hd⟩
        exact ⟨d, hp2.symm.subset (List.mem_cons_of_mem _ hd)⟩
end
end Go.Proofs.Ytgbipfohcailnaa
/- timbref1.Split; the walk's laws for a map of terms. -/
namespace Go.Proofs.Ytgbipfohcailnaa
set_option linter.unusedVariables false
set_option linter.unusedSimpArgs false
open Go.RowKit Go.Maps

theorem ut : Try.prog.underlying 34 = some (.map 3 3) := Try.underlying34
theorem MapI.setCell {w : World} {b : Nat} {o : List Tm} (h : MapI w b o) {g : Addr} (hg : b ≠ g.block) (v : Value) : MapI (w.setCell g v) b o := ⟨h.dict.setCell hg v, h.nodup⟩
/-- What is in a map of terms is the coefficient. -/
theorem MapI.val {w : World} {b : Nat} {o : List Tm} (h : MapI w b o) {x c : Int} (hm : (x, c) ∈ o) : coefT o x = c := by rw [coefT_look h.nodup, lookT_of_mem h.nodup hm]; rfl
section
variable (w : World) {ops : Array Oper} {rest : List Oper} {o : Oper} {a : Act} {Q : Exit → Act → World → Prop}
theorem wpList_lookI (hg : o.guard = none) (m x : Operand) (t : TypeId) (hop : o.op = Op.lookup t m x false) (ht : Try.prog.underlying t = some (.map 3 3)) (b : Nat) (T : List Tm) (y : Int) (hm : a.eval m = .map (some b)) (h : MapI w b T) (hx : a.eval x = .int .i64 y) (hy : (Lit.int .i64 y).wf = true)
    (hK : wpList Try.prog ops Q rest (a.put o.dst (.int .i64 (coefT T y))) w) : wpList Try.prog ops Q (o :: rest) a w := by
  refine wpList_plain hg fun K' hK' => ?_
  unfold Oper.wp
  simp [execOp, hop, hm, hx, h.look ht hy, Result.andThen]
  exact hK' _ _ hK
theorem wpList_putI (hg : o.guard = none) (m x v : Operand) (t : TypeId) (hop : o.op = Op.mapUpdate t m x v) (ht : Try.prog.underlying t = some (.map 3 3)) (b : Nat) (T : List Tm) (y z : Int) (hm : a.eval m = .map (some b)) (h : MapI w b T) (hn : T.length < 1000000) (hx : a.eval x = .int .i64 y) (hv : a.eval v = .int .i64 z) (hy : (Lit.int .i64 y).wf = true)
    (hK : ∀ w', MapI w' b (putT T y z) → w.grownBy w' (some b) → w'.heap.size = w.heap.size → wpList Try.prog ops Q rest (a.put o.dst undef) w') : wpList Try.prog ops Q (o :: rest) a w := by
  refine wpList_plain hg fun K' hK' => ?_
  obtain ⟨w', hrun, r1, r2, r3⟩ := h.store ht hy (v := z) hn
  unfold Oper.wp
  simp [execOp, hop, hm, hx, hv, hrun, Result.andThen]
  exact hK' _ _ (hK w' r1 r2 r3)
theorem wpList_insI (hg : o.guard = none) (m x v : Operand) (t : TypeId) (hop : o.op = Op.insert t m x v) (ht : Try.prog.underlying t = some (.map 3 3)) (b : Nat) (T : List Tm) (y z : Int) (hm : a.eval m = .map (some b)) (h : MapI w b T) (hn : T.length < 1000000) (hx : a.eval x = .int .i64 y) (hv : a.eval v = .int .i64 z) (hy : (Lit.int .i64 y).wf = true)
    (hK : ∀ w', MapI w' b (putT T y z) → w.grownBy w' (some b) → w'.heap.size = w.heap.size → wpList Try.prog ops Q rest (a.put o.dst undef) w') : wpList Try.prog ops Q (o :: rest) a w := by
  refine wpList_plain hg fun K' hK' => ?_
  obtain ⟨w', hrun, r1, r2, r3⟩ := h.store ht hy (v := z) hn
  unfold Oper.wp
  simp [execOp, hop, hm, hx, hv, hrun, Result.andThen]
  exact hK' _ _ (hK w' r1 r2 r3)
end
/-- A new map of terms that reads as x; its keys are not far off. -/
def GivesT (w : World) (x : LP) (E : Nat) (e : Ending) (w' : World) : Prop :=
  ∃ b o, e = .returned (.map (some b)) ∧ w.heap.size ≤ b ∧ MapI w' b o ∧ LP.mk o = x ∧ (∀ p ∈ o, p.1.natAbs ≤ E) ∧ Below w.heap.size w w'
theorem putT_mk {o : List Tm} (hn : (o.map (·.1)).Nodup) {x : LP} (hx : LP.mk o = x) (e v : Int) (c : Int) (hv : v = coefT o e + c) : LP.mk (putT o e v) = x + LP.term e c := LP.ext fun k => by
  subst hx hv
  rw [LP.co_add, LP.co_term, LP.co_mk, LP.co_mk, coefT_put hn]
  by_cases h : k = e
  · rw [if_pos h, if_pos h.symm, h]
  · rw [if_neg h, if_neg (fun e => h e.symm), Int.add_zero]
end Go.Proofs.Ytgbipfohcailnaa
/- timbref1.Terms.Plus and Mul. -/
namespace Go.Proofs.Ytgbipfohcailnaa
set_option linter.unusedVariables false
set_option linter.unusedSimpArgs false
open Go.RowKit Go.Maps

theorem coefT_perm {a b : List Tm} (h : a.Perm b) (k : Int) : coefT a k = coefT b k := sumT_perm h
theorem mk_perm {a b : List Tm} (h : a.Perm b) : LP.mk a = LP.mk b := LP.mk_eq (coefT_perm h)
theorem coefT_le {V : Nat} : ∀ {o : List Tm}, (o.map (·.1)).Nodup → (∀ p ∈ o, p.2.natAbs ≤ V) → ∀ k, (coefT o k).natAbs ≤ V := fun {o} hn h k => by
  rw [coefT_look hn]
  cases e : lookT o k with
  | none => exact Nat.zero_le _
  | some c => exact h _ (lookT_mem e)
theorem LP.mk_snoc (o : List Tm) (x c : Int) : LP.mk (o ++ [(x, c)]) = LP.mk o + LP.term x c := rfl
theorem LP.term_mul_snoc (k : Int) (y : LP) (x c : Int) : LP.term 0 k * (y + LP.term x c) = LP.term 0 k * y + LP.term x (k * c) := by
  rw [CR.mul_add]
  congr 1
  exact LP.ext fun j => by
    rw [LP.co_term_mul, LP.co_term, LP.co_term]
    by_cases h : x = j
    · rw [if_pos (by omega), if_pos h]
    · rw [if_neg (by omega), if_neg h, Int.mul_zero]
theorem wrap64_small {c : Int} (h : c.natAbs ≤ 9000000000000000000) : wrap64 c = c := by unfold wrap64; omega
section
variable {w w' : World} {b r cnt : Nat} {T done rem : List Tm} {x c : Int}
theorem RangeI.fresh (h : RangeI w b r T (done ++ [(x, c)]) rem cnt) : coefT done x = 0 ∧ (x, c) ∈ T := by
  refine ⟨coefT_not fun p hp e => ?_, h.mem _ (by simp)⟩
  have hn : ((done ++ [(x, c)] ++ rem).map (·.1)).Nodup := (h.perm.map (·.1)).nodup_iff.2 h.nodup
  rw [List.append_assoc, List.map_append] at hn
  exact (List.nodup_append.1 hn).2.2 p.1 (List.mem_map.2 ⟨p, hp, rfl⟩) x (by simp) e
theorem RangeI.all (h : RangeI w b r T done [] cnt) : done.Perm T := by
  have := h.perm
  rwa [List.append_nil] at this
end

set_option maxRecDepth 100000 in
set_option maxHeartbeats 4000000 in
theorem plus_any (ba bb : Nat) (ta tb : List Tm) (k : Int) (hk1 : k = 1 ∨ k = -1) (E : Nat) (hE : E ≤ 400000) (w : World) (ha : MapI w ba ta) (hb : MapI w bb tb) (hka : ∀ p ∈ ta, p.1.natAbs ≤ E) (hkb : ∀ p ∈ tb, p.1.natAbs ≤ E) (hva : ∀ p ∈ ta, p.2.natAbs ≤ 4000000000000000000) (hvb : ∀ p ∈ tb, p.2.natAbs ≤ 4000000000000000000) :
    Calls Try.prog 23 #[.map (some ba), .map (some bb), .int .i64 k] w (GivesT w (LP.mk ta + LP.term 0 k * LP.mk tb) E) := by
  have hmm := @run_makeMap Try.prog
  have HA := hide ha
  have HB := hide hb
  have HKA := hide hka
  have HKB := hide hkb
  have HVA := hide hva
  have HVB := hide hvb
  have lba := ha.lt
  have lbb := hb.lt
  clear ha hb hka hkb hva hvb
  have HW0 := hide ((Below.refl w.heap.size w).alloc (Nat.le_refl _) (.map #[] 0))
  have HM0 := hide (MapI.made w)
  obtain ⟨m, hm⟩ : ∃ m, w.heap.size = m := ⟨_, rfl⟩
  have HMM := hide hm
  clear hm
  go_enter Try.func23, Try.ntmps23
  go_upto_region 2 with fail
  obtain ⟨w0, hw0⟩ : ∃ x, w.alloc (.map #[] 0) = x := ⟨_, rfl⟩
  rw [hw0] at HW0 HM0 ⊢
  have hm := HMM.out
  rw [hm] at HM0 HW0 lba lbb ⊢
  clear hw0 hm
  have l0 : m < w0.heap.size := HM0.out.lt
  go_wp2_with (refine wpList_rangeI _ rfl _ _ rfl ut ba ta rfl (HA.out.below (by rw [HMM.out]; exact HW0.out)) (fun p hp => wfI (by have := HKA.out p hp; omega)) ?_; intro w1 cnt hrg hg1 hs1)
  obtain ⟨r, hr⟩ : ∃ r, w0.heap.size = r := ⟨_, rfl⟩
  rw [hr] at hrg l0 ⊢
  have HM1 := hide (HM0.out.kept hg1 (by simp))
  have HW1 := hide (HW0.out.grown hg1 (by rw [← HMM.out]; exact HW0.out.size) (by simp))
  have HRG := hide hrg
  clear hrg hg1 hs1 HM0 HW0 hr
  go_frame
  go_loopw [8] (fun _ wr => ∃ (o done rem : List Tm) (cnt : Nat), RangeI wr ba r ta done rem cnt ∧ MapI wr m o ∧ LP.mk o = LP.mk done ∧ (∀ p ∈ o, p.1.natAbs ≤ E) ∧ Below m w wr ∧ m < r) (fun _ wr => wr.rangeLeft ba r)
  case atStart => exact ⟨[], [], ta, cnt, HRG.out, HM1.out, rfl, by simp, HW1.out, l0⟩
  case round =>
    clear HRG HM1 HW1 l0
    obtain ⟨o, done, rem, cnt, hrg, hmo, ho, hke, hbw, hmr⟩ := hrel
    have HMO := hide hmo
    have HO := hide ho
    have HKE := hide hke
    have HBW := hide hbw
    have HRG := hide hrg
    have hor := hrg.left_eq
    have HOR := hide hor
    clear hmo ho hke hbw hrg hor
    go_wp2_with (refine wpList_nextI _ rfl _ rfl ba r ta done rem cnt rfl HRG.out ?_ ?_)
    · intro hrem
      subst hrem
      have HO2 : Hid (LP.mk o = LP.mk ta) := hide (by rw [HO.out]; exact mk_perm HRG.out.all)
      have lm : m < wr.heap.size := HMO.out.lt
      clear HRG HOR HO
      go_upto_region 6 with fail
      go_wp2_with (refine wpList_rangeI _ rfl _ _ rfl ut bb tb rfl (HB.out.below (by rw [HMM.out]; exact HBW.out)) (fun p hp => wfI (by have := HKB.out p hp; omega)) ?_; intro w3 cnt3 hrg hg3 hs3)
      obtain ⟨r2, hr2⟩ : ∃ r, wr.heap.size = r := ⟨_, rfl⟩
      rw [hr2] at hrg lm ⊢
      have HM3 := hide (HMO.out.kept hg3 (by simp))
      have HW3 := hide (HBW.out.grown hg3 (by rw [← HMM.out]; exact HBW.out.size) (by simp))
      have HRG3 := hide hrg
      clear hrg hg3 hs3 HMO HBW hr2
      go_frame
      go_loopw [10] (fun _ wr => ∃ (o done rem : List Tm) (cnt : Nat), RangeI wr bb r2 tb done rem cnt ∧ MapI wr m o ∧ LP.mk o = LP.mk ta + LP.term 0 k * LP.mk done ∧ (∀ p ∈ o, p.1.natAbs ≤ E) ∧ Below m w wr ∧ m < r2) (fun _ wr => wr.rangeLeft bb r2)
      case atStart => exact ⟨o, [], tb, cnt3, HRG3.out, HM3.out, by rw [HO2.out]; show _ = _ + LP.term 0 k * (0 : LP); rw [CR.mul_zero, CR.add_zero], HKE.out, HW3.out, lm⟩
      case round =>
        clear HRG3 HM3 HW3 lm HO2 HKE
        obtain ⟨o, done, rem, cnt, hrg, hmo, ho, hke, hbw, hmr⟩ := hrel
        have HMO := hide hmo
        have HO := hide ho
        have HKE := hide hke
        have HBW := hide hbw
        have HRG := hide hrg
        have hor := hrg.left_eq
        have HOR := hide hor
        clear hmo ho hke hbw hrg hor
        go_wp2_with (refine wpList_nextI _ rfl _ rfl bb r2 tb done rem cnt rfl HRG.out ?_ ?_)
        · intro hrem
          subst hrem
          have HO2 : Hid (LP.mk o = LP.mk ta + LP.term 0 k * LP.mk tb) := hide (by rw [HO.out, mk_perm HRG.out.all])
          clear HRG HOR HO
          go_wp2_with fail
          go_ret
          exact ⟨m, o, rfl, by rw [HMM.out]; exact Nat.le_refl _, HMO.out, HO2.out, HKE.out, by rw [HMM.out]; exact HBW.out⟩
        · intro x c rem' w2 cnt' hpm hrg2 hlt hg2 hs2 hen
          have hfr := hrg2.fresh
          have hxE := HKB.out _ hfr.2
          have hcV := HVB.out _ hfr.2
          simp only at hxE hcV
          have HMO2 := hide (HMO.out.kept hg2 (by intro e; injection e with e; omega))
          have HBW2 := hide (HBW.out.grown hg2 (by rw [← HMM.out]; exact HBW.out.size) (fun j hj => by injection hj with hj; omega))
          have hco : coefT o x = coefT ta x := by
            have h : LP.co (LP.mk o) x = LP.co (LP.mk ta + LP.term 0 k * LP.mk done) x := by rw [HO.out]
            rw [LP.co_add, LP.co_term_mul, LP.co_mk, LP.co_mk, LP.co_mk, Int.sub_zero, hfr.1, Int.mul_zero, Int.add_zero] at h
            exact h
          have haV : (coefT o x).natAbs ≤ 4000000000000000000 := by rw [hco]; exact coefT_le HA.out.nodup HVA.out x
          have HO3 : Hid (LP.mk (putT o x (coefT o x + k * c)) = LP.mk ta + LP.term 0 k * LP.mk (done ++ [(x, c)])) := hide (by rw [LP.mk_snoc, LP.term_mul_snoc, ← CR.add_assoc, ← HO.out]; exact putT_mk HMO.out.nodup rfl _ _ _ rfl)
          obtain ⟨a0, ha0⟩ : ∃ a, coefT o x = a := ⟨_, rfl⟩
          rw [ha0] at haV HO3
          have hwk : wrap64 (k * c) = k * c := wrap64_small (by rcases hk1 with rfl | rfl <;> omega)
          have hwr : wrap64 (a0 + k * c) = a0 + k * c := wrap64_small (by rcases hk1 with rfl | rfl <;> omega)
          have hle : o.length < 1000000 := Nat.lt_of_le_of_lt (nodup_leT HMO.out.nodup HKE.out) (by omega)
          have HWF := hide (wfI (x := x) (by omega))
          have HKE2 : Hid (∀ p ∈ putT o x (a0 + k * c), p.1.natAbs ≤ E) := hide (fun p hp => by
            rcases putT_keys _ _ _ p hp with h | h
            · exact HKE.out p h
            · rw [h]; exact hxE)
          have HRG2 := hide hrg2
          have HCO := hide ha0
          clear hrg2 hfr hpm hg2 hs2 hco hxE hcV ha0 haV
          go_wp2_with (first
            | ((with_reducible show wpList _ _ _ (Oper.mk _ (.lookup _ _ _ _) _ _ _ _ :: _) _ _); refine wpList_lookI _ rfl _ _ _ rfl ut m o x rfl HMO2.out rfl HWF.out ?_; rw [HCO.out])
            | ((with_reducible show wpList _ _ _ (Oper.mk _ (.mapUpdate _ _ _ _) _ _ _ _ :: _) _ _); refine wpList_putI _ rfl _ _ _ _ rfl ut m o x _ rfl HMO2.out hle rfl rfl HWF.out ?_; intro w9 hm9 hg9 hs9; try simp only [hwk, hwr] at hm9))
          have HM9 := hide hm9
          have HRG9 := hide (HRG2.out.kept hg9 (by intro e; injection e with e; omega) (by intro e; injection e with e; omega))
          have HBW9 := hide (HBW2.out.grown hg9 (by rw [← HMM.out]; exact HBW2.out.size) (fun j hj => by injection hj with hj; omega))
          clear hg9 hs9 hen hm9 hwr hle hwk
          go_frame
          go_wp2_with fail
          go_roundw
          case rel => exact ⟨_, _, rem', cnt', HRG9.out, HM9.out, HO3.out, HKE2.out, HBW9.out, hmr⟩
          case measure => rw [HRG9.out.left_eq, HOR.out]; exact hlt
    · intro x c rem' w2 cnt' hpm hrg2 hlt hg2 hs2 hen
      have hfr := hrg2.fresh
      have hxE := HKA.out _ hfr.2
      have hcV := HVA.out _ hfr.2
      simp only at hxE hcV
      have HMO2 := hide (HMO.out.kept hg2 (by intro e; injection e with e; omega))
      have HBW2 := hide (HBW.out.grown hg2 (by rw [← HMM.out]; exact HBW.out.size) (fun j hj => by injection hj with hj; omega))
      have hco : coefT o x = 0 := by
        have h : LP.co (LP.mk o) x = LP.co (LP.mk done) x := by rw [HO.out]
        rw [LP.co_mk, LP.co_mk, hfr.1] at h
        exact h
      have hwr : wrap64 c = c := wrap64_small (by omega)
      have hle : o.length < 1000000 := Nat.lt_of_le_of_lt (nodup_leT HMO.out.nodup HKE.out) (by omega)
      have HO3 : Hid (LP.mk (putT o x c) = LP.mk (done ++ [(x, c)])) := hide (by rw [LP.mk_snoc, ← HO.out]; exact putT_mk HMO.out.nodup rfl _ _ _ (by rw [hco, Int.zero_add]))
      have HWF := hide (wfI (x := x) (by omega))
      have HKE2 : Hid (∀ p ∈ putT o x c, p.1.natAbs ≤ E) := hide (fun p hp => by
        rcases putT_keys _ _ _ p hp with h | h
        · exact HKE.out p h
        · rw [h]; exact hxE)
      have HRG2 := hide hrg2
      have HCO := hide hco
      clear hrg2 hfr hpm hg2 hs2 hco hxE hcV
      go_wp2_with (first
        | ((with_reducible show wpList _ _ _ (Oper.mk _ (.lookup _ _ _ _) _ _ _ _ :: _) _ _); refine wpList_lookI _ rfl _ _ _ rfl ut m o x rfl HMO2.out rfl HWF.out ?_; rw [HCO.out])
        | ((with_reducible show wpList _ _ _ (Oper.mk _ (.mapUpdate _ _ _ _) _ _ _ _ :: _) _ _); refine wpList_putI _ rfl _ _ _ _ rfl ut m o x _ rfl HMO2.out hle rfl rfl HWF.out ?_; intro w9 hm9 hg9 hs9; simp only [Int.zero_add, hwr] at hm9))
      have HM9 := hide hm9
      have HRG9 := hide (HRG2.out.kept hg9 (by intro e; injection e with e; omega) (by intro e; injection e with e; omega))
      have HBW9 := hide (HBW2.out.grown hg9 (by rw [← HMM.out]; exact HBW2.out.size) (fun j hj => by injection hj with hj; omega))
      clear hg9 hs9 hen hm9 hwr hle
      go_frame
      go_wp2_with fail
      go_roundw
      case rel => exact ⟨_, _, rem', cnt', HRG9.out, HM9.out, HO3.out, HKE2.out, HBW9.out, hmr⟩
      case measure => rw [HRG9.out.left_eq, HOR.out]; exact hlt
end Go.Proofs.Ytgbipfohcailnaa
