/- Several texts of the walk in one. -/
import Derived.Test.YtllalncbajpodaaPart1
import Derived.Test.YtllalncbajpodaaBase
import Derived.Maps.RangeWalk
import Derived.Maps.Keyed
import Derived.Deep.DeepCutAuto
/- Free derivatives: exponents, the derivative of a word, the rule of a product, and t^e - 1 as a sum of derivatives. -/
namespace Go.Proofs.Ytllalncbajpodaa
set_option linter.unusedVariables false
set_option linter.unusedSimpArgs false
namespace LP

/-- The exponent of a word. -/
def expo (w : List Int) : Int := wsum Int.sign w
theorem sign_neg_ (x : Int) : Int.sign (-x) = -Int.sign x := Int.sign_neg x
theorem sign_le (x : Int) : (Int.sign x).natAbs ≤ 1 := by
  rcases Int.lt_trichotomy x 0 with h | h | h
  · rw [Int.sign_eq_neg_one_of_neg h]; decide
  · subst h; decide
  · rw [Int.sign_eq_one_of_pos h]; decide
theorem expo_nil : expo [] = 0 := rfl
theorem expo_cons (x : Int) (w : List Int) : expo (x :: w) = Int.sign x + expo w := by simp [expo, wsum]
theorem expo_append (u v : List Int) : expo (u ++ v) = expo u + expo v := wsum_append _ u v
theorem expo_le : ∀ w : List Int, (expo w).natAbs ≤ w.length
  | [] => by decide
  | x :: w => by
    rw [expo_cons, List.length_cons]
    have := sign_le x
    have := expo_le w
    omega

/-- The derivative of a letter. -/
def dx (i x : Int) : LP := if x = i then 1 else if x = -i then term (-1) (-1) else 0
/-- The derivative of a word. -/
def foxT (i : Int) : List Int → LP
  | [] => 0
  | x :: w => dx i x + term (Int.sign x) 1 * foxT i w
theorem term_mul (e f c d : Int) : term e c * term f d = term (e + f) (c * d) := ext fun k => by
  rw [co_term_mul, co_term, co_term]
  by_cases h : f = k - e
  · rw [if_pos h, if_pos (by omega)]
  · rw [if_neg h, if_neg (by omega), Int.mul_zero]
theorem term_one : term 0 1 = (1 : LP) := rfl
theorem foxT_append (i : Int) (v : List Int) : ∀ u : List Int, foxT i (u ++ v) = foxT i u + term (expo u) 1 * foxT i v
  | [] => by
    show foxT i v = 0 + term 0 1 * foxT i v
    rw [term_one, CR.one_mul, CR.zero_add]
  | x :: u => by
    show dx i x + term (Int.sign x) 1 * foxT i (u ++ v) = dx i x + term (Int.sign x) 1 * foxT i u + term (expo (x :: u)) 1 * foxT i v
    rw [foxT_append i v u, CR.mul_add, ← CR.mul_assoc, term_mul, expo_cons, CR.add_assoc]
    rfl
theorem foxT_one (i x : Int) : foxT i [x] = dx i x := by
  show dx i x + term (Int.sign x) 1 * 0 = _
  rw [CR.mul_zero, CR.add_zero]
theorem Sm.term (e c : Int) {l h : Int} {B : Nat} (h1 : l ≤ e) (h2 : e ≤ h) (h3 : c.natAbs ≤ B) : Sm (term e c) l h B :=
  ⟨fun k hk => by
    rw [co_term] at hk
    by_cases he : e = k
    · omega
    · rw [if_neg he] at hk; exact absurd rfl hk,
  fun k => by
    rw [co_term]
    split
    · exact h3
    · exact Nat.zero_le _⟩
theorem Sm.zero {l h : Int} {B : Nat} : Sm 0 l h B := ⟨fun k hk => absurd (co_zero k) hk, fun k => by rw [co_zero]; exact Nat.zero_le _⟩
theorem Sm.shift {x : LP} {l h : Int} {B : Nat} (hx : Sm x l h B) (e : Int) : Sm (LP.term e 1 * x) (l + e) (h + e) B :=
  ⟨fun k hk => by
    rw [co_term_mul, Int.one_mul] at hk
    have := hx.supp _ hk
    omega,
  fun k => by rw [co_term_mul, Int.one_mul]; exact hx.le _⟩
theorem dx_sm (i x : Int) : Sm (dx i x) (-1) 0 1 := by
  unfold dx
  split
  · exact Sm.term 0 1 (by decide) (by decide) (by decide)
  · split
    · exact Sm.term (-1) (-1) (by decide) (by decide) (by decide)
    · exact Sm.zero
theorem foxT_sm (i : Int) : ∀ w : List Int, Sm (foxT i w) (-(w.length : Int)) w.length w.length
  | [] => Sm.zero
  | x :: w => by
    have h := (dx_sm i x).add ((foxT_sm i w).shift (Int.sign x))
    have := sign_le x
    refine Sm.mono h ?_ ?_ ?_
    · rw [List.length_cons]; omega
    · rw [List.length_cons]; omega
    · rw [List.length_cons]; omega
theorem foxT_rt (i : Int) {w : List Int} (h : w.length ≤ 60) : Rt (foxT i w) :=
  (foxT_sm i w).pfl (by omega) (by omega) (by omega) (by omega)

/-- t - 1. -/
def less : LP := term 1 1 + -1
/-- The sum of the first derivatives times t - 1. -/
def part (w : List Int) : Nat → LP
  | 0 => 0
  | k + 1 => part w k + foxT ((k : Int) + 1) w * less
/-- The same of a letter. -/
def partX (x : Int) : Nat → LP
  | 0 => 0
  | k + 1 => partX x k + dx ((k : Int) + 1) x * less
theorem part_nil : ∀ k, part [] k = 0
  | 0 => rfl
  | k + 1 => by
    show part [] k + 0 * less = 0
    rw [part_nil k, CR.zero_mul, CR.add_zero]
theorem part_cons (x : Int) (w : List Int) : ∀ k, part (x :: w) k = partX x k + term (Int.sign x) 1 * part w k
  | 0 => by
    show (0 : LP) = 0 + _ * 0
    rw [CR.mul_zero, CR.add_zero]
  | k + 1 => by
    show part (x :: w) k + (dx ((k : Int) + 1) x + term (Int.sign x) 1 * foxT ((k : Int) + 1) w) * less = partX x k + dx ((k : Int) + 1) x * less + term (Int.sign x) 1 * (part w k + foxT ((k : Int) + 1) w * less)
    rw [part_cons x w k, CR.add_mul, CR.mul_add, CR.mul_assoc]
    generalize partX x k = a, term (Int.sign x) 1 * part w k = b, dx ((k : Int) + 1) x * less = c, term (Int.sign x) 1 * (foxT ((k : Int) + 1) w * less) = d
    rw [CR.add_assoc, CR.add_assoc, ← CR.add_assoc b, CR.add_comm b c, CR.add_assoc c]
theorem partX_eq {x : Int} (h0 : x ≠ 0) : ∀ k : Nat, partX x k = if x.natAbs ≤ k then term (Int.sign x) 1 + -1 else 0
  | 0 => by rw [if_neg (by omega)]; rfl
  | k + 1 => by
    show partX x k + dx ((k : Int) + 1) x * less = _
    rw [partX_eq h0 k]
    by_cases h : x.natAbs ≤ k
    · rw [if_pos h, if_pos (by omega)]
      unfold dx
      rw [if_neg (by omega), if_neg (by omega), CR.zero_mul, CR.add_zero]
    · rw [if_neg h, CR.zero_add]
      unfold dx
      by_cases h1 : x = (k : Int) + 1
      · rw [if_pos h1, if_pos (by omega), CR.one_mul, Int.sign_eq_one_of_pos (by omega)]
        rfl
      · rw [if_neg h1]
        by_cases h2 : x = -((k : Int) + 1)
        · rw [if_pos h2, if_pos (by omega), Int.sign_eq_neg_one_of_neg (by omega)]
          unfold less
          rw [CR.mul_add, term_mul]
          show term 0 (-1) + term (-1) (-1) * -1 = term (-1) 1 + -1
          refine ext fun j => ?_
          rw [co_add, co_add, co_term_mul, co_neg, co_neg, co_one, co_one, co_term, co_term]
          split <;> split <;> split <;> omega
        · rw [if_neg h2, if_neg (by omega), CR.zero_mul]
/-- FOX: t^e - 1 is the sum of all derivatives times t - 1. -/
theorem fox_sum {n : Nat} : ∀ {w : List Int}, (∀ x ∈ w, x ≠ 0 ∧ x.natAbs ≤ n) → part w n = term (expo w) 1 + -1
  | [], _ => by
    rw [part_nil, expo_nil, term_one, CR.add_neg]
  | x :: w, h => by
    have h1 := h x (by simp)
    rw [part_cons, partX_eq h1.1, if_pos h1.2, fox_sum fun y hy => h y (by simp [hy]), CR.mul_add, term_mul, expo_cons]
    show term (Int.sign x) 1 + -1 + (term (Int.sign x + expo w) 1 + term (Int.sign x) 1 * -1) = _
    rw [CR.mul_neg, CR.mul_one]
    rw [show term (Int.sign x) 1 + -1 + (term (Int.sign x + expo w) 1 + -term (Int.sign x) 1) = (term (Int.sign x) 1 + -term (Int.sign x) 1) + (term (Int.sign x + expo w) 1 + -1) from by ac_rfl, CR.add_neg, CR.zero_add]
theorem less_mul_sm {x : LP} {l h : Int} {B : Nat} (hx : Sm x l h B) (hl : l ≤ h + 1) : Sm (x * less) l (h + 1) (B + B) := by
  unfold less
  rw [CR.mul_add, CR.mul_neg, CR.mul_one, CR.mul_comm]
  exact ((hx.shift 1).add hx.neg).mono (by omega) (by omega) (Nat.le_refl _)
theorem part_sm (w : List Int) : ∀ k : Nat, Sm (part w k) (-(w.length : Int)) (w.length + 1) (2 * w.length * k)
  | 0 => Sm.zero
  | k + 1 => by
    have h := (part_sm w k).add (less_mul_sm (foxT_sm ((k : Int) + 1) w) (by omega))
    refine h.mono (by omega) (by omega) ?_
    rw [Nat.mul_succ]
    omega
theorem part_rt (w : List Int) (h : w.length ≤ 30) {k : Nat} (hk : k ≤ 6) : Rt (part w k) := by
  have h2 : 2 * w.length * k ≤ 60 * 6 := Nat.mul_le_mul (by omega) hk
  exact (part_sm w k).pfl (by omega) (by omega) (by omega) (by omega)
theorem less_rt (i : Int) {w : List Int} (h : w.length ≤ 60) : Rt (foxT i w * less) :=
  (less_mul_sm (foxT_sm i w) (by omega)).pfl (by omega) (by omega) (by omega) (by omega)
theorem canon_term1 (e : Int) : canon (term e 1) = (e, [1]) := by
  rw [← of_one]
  exact canon_term e 1 (.inl rfl)
end LP
end Go.Proofs.Ytllalncbajpodaa
/- timbref1.FreeFault: which words are words. -/
namespace Go.Proofs.Ytllalncbajpodaa
set_option linter.unusedVariables false
set_option linter.unusedSimpArgs false
open Go.RowKit

/-- A letter of the free group with 6 generators. -/
def okL (x : Int) : Bool := decide (x ≠ 0 ∧ x ≤ 6 ∧ -6 ≤ x)
def ffault (w : List Int) : Int := if 60 < w.length then 2 else if w.all okL then 0 else 1
theorem ffault_zero {w : List Int} (h : ffault w = 0) : w.length ≤ 60 ∧ ∀ x ∈ w, x ≠ 0 ∧ x ≤ 6 ∧ -6 ≤ x := by
  unfold ffault at h
  by_cases h1 : 60 < w.length
  · rw [if_pos h1] at h; cases h
  · rw [if_neg h1] at h
    by_cases h2 : w.all okL = true
    · refine ⟨by omega, fun x hx => ?_⟩
      have := List.all_eq_true.1 h2 x hx
      simpa [okL] using this
    · rw [if_neg h2] at h; cases h
theorem ffault_ok {w : List Int} (h1 : w.length ≤ 60) (h2 : ∀ x ∈ w, x ≠ 0 ∧ x ≤ 6 ∧ -6 ≤ x) : ffault w = 0 := by
  unfold ffault
  rw [if_neg (by omega), if_pos]
  exact List.all_eq_true.2 fun x hx => by simpa [okL] using h2 x hx
theorem all_take_succ {w : List Int} {k : Nat} (hk : k < w.length) : (w.take (k + 1)).all okL = ((w.take k).all okL && okL (w.getD k 0)) := by
  rw [List.take_succ_eq_append_getElem hk, List.all_append]
  simp [List.getD, List.getElem?_eq_getElem hk]

set_option maxHeartbeats 1000000 in
theorem free_fault_any (A : Option Addr) (n c : Nat) (xs : List Int) (w : World) (ha : IL w A n xs) :
    Calls Try.prog 8 #[.slice A n c] w fun e w' => e = .returned (.int .i64 (ffault xs)) ∧ w = w' := by
  have hl := ha.len
  have hns := ha.small
  have HA := hide ha
  have HL := hide hl
  by_cases h60 : 60 < n
  · have HF : Hid (ffault xs = 2) := hide (by unfold ffault; rw [if_pos (by omega)])
    clear ha hl
    go_enter Try.func8, Try.ntmps8
    go_wp2
    go_ret
    rw [HF.out]
    exact ⟨rfl, rfl⟩
  · have HF : Hid (ffault xs = if xs.all okL then 0 else 1) := hide (by unfold ffault; rw [if_neg (by omega)])
    clear ha hl
    go_enter Try.func8, Try.ntmps8
    go_wp2
    go_loop [10] (fun iv => ∃ k : Nat, k ≤ n ∧ iv = .int .i64 k ∧ Hid ((xs.take k).all okL = true)) (fun iv => n - (intOf iv).toNat)
    case atStart => exact ⟨0, Nat.zero_le _, rfl, by rw [List.take_zero]; exact rfl⟩
    case round =>
      obtain ⟨k, hk, rfl, HK⟩ := hrel
      by_cases hlt : k < n
      · obtain ⟨ad, rfl, hcl⟩ := HA.out.at_ hlt
        have HT := hide (all_take_succ (w := xs) (k := k) (by rw [HL.out]; exact hlt))
        have HM : Hid (xs.getD k 0 ∈ xs) := hide (by
          have hkl : k < xs.length := by rw [HL.out]; exact hlt
          rw [show xs.getD k 0 = xs[k] by simp [List.getD, List.getElem?_eq_getElem hkl]]
          exact List.getElem_mem _)
        obtain ⟨x, hx⟩ : ∃ x, xs.getD k 0 = x := ⟨_, rfl⟩
        rw [hx] at hcl HT HM
        clear hx
        by_cases hok : x ≠ 0 ∧ x ≤ 6 ∧ -6 ≤ x
        · have HN : Hid ((xs.take (k + 1)).all okL = true) := hide (by rw [HT.out, HK.out]; simp [okL, hok])
          obtain ⟨h0, h1, h2⟩ := hok
          have hb : (x == 0) = false := by simpa using h0
          clear h0
          go_wp2
          go_round
          case rel => exact ⟨k + 1, by omega, by go_num, HN.out⟩
          case measure => simp [intOf]; omega
        · have HN : Hid (xs.all okL = false) := hide (by
            rw [Bool.eq_false_iff]
            intro h
            have := List.all_eq_true.1 h x HM.out
            exact hok (by simpa [okL] using this))
          rw [HN.out] at HF
          by_cases h0 : x = 0
          · subst h0
            clear hok
            go_wp2
            go_ret
            rw [HF.out]
            exact ⟨rfl, rfl⟩
          · have hb : (x == 0) = false := by simpa using h0
            by_cases h1 : x ≤ 6
            · have h2 : x < -6 := by
                rcases Int.lt_or_le x (-6) with h | h
                · exact h
                · exact absurd ⟨h0, h1, h⟩ hok
              clear hok h0
              go_wp2
              go_ret
              rw [HF.out]
              exact ⟨rfl, rfl⟩
            · have h1' : 6 < x := by omega
              clear hok h0 h1
              go_wp2
              go_ret
              rw [HF.out]
              exact ⟨rfl, rfl⟩
      · have HE : Hid (xs.all okL = true) := hide (by
          have := HK.out
          rwa [List.take_of_length_le (by rw [HL.out]; omega)] at this)
        rw [HE.out] at HF
        go_wp2
        go_ret
        rw [HF.out]
        exact ⟨rfl, rfl⟩
end Go.Proofs.Ytllalncbajpodaa
/- What package foxcalc's functions are to answer. -/
namespace Go.Proofs.Ytllalncbajpodaa
set_option linter.unusedVariables false
set_option linter.unusedSimpArgs false
open Go.RowKit

/-- The exponent, or 0 if the word is not right. -/
def expV (xs : List Int) : Int := if ffault xs = 0 then LP.expo xs else 0
/-- The derivative. -/
noncomputable def foxR (xs : List Int) (i : Int) : LP.PR :=
  if ffault xs = 0 then (if 1 ≤ i ∧ i ≤ 6 then (0, (LP.canon (LP.foxT i xs)).1, (LP.canon (LP.foxT i xs)).2) else (1, 0, [])) else (ffault xs, 0, [])
/-- Package foxcalc, as the document asks. -/
structure FoxC : Prop where
  exponent : ∀ (A : Option Addr) (n c : Nat) (xs : List Int) (w : World), SL w A n c xs → Calls Try.prog 6 #[.slice A n c] w fun e w' => e = .returned (.tuple #[.int .i64 (expV xs), .int .i64 (ffault xs)]) ∧ Below w.heap.size w w'
  derivative : ∀ (A : Option Addr) (n c : Nat) (xs : List Int) (i : Int) (w : World), SL w A n c xs → (Lit.int .i64 i).wf = true → Calls Try.prog 7 #[.slice A n c, .int .i64 i] w (GivesPE w (foxR xs i))
end Go.Proofs.Ytllalncbajpodaa
/- timbref1.Weight: the exponent of a word. -/
namespace Go.Proofs.Ytllalncbajpodaa
set_option linter.unusedVariables false
set_option linter.unusedSimpArgs false
open Go.RowKit

theorem sign_quo {x : Int} (h : x ≠ 0) (h1 : x.natAbs ≤ 1000) : IntKind.i64.wrap (x.tdiv (x.natAbs : Int)) = Int.sign x := by
  have e : x.tdiv (x.natAbs : Int) = Int.sign x := by
    rcases Int.lt_trichotomy x 0 with h2 | h2 | h2
    · rw [Int.sign_eq_neg_one_of_neg h2]
      obtain ⟨n, rfl⟩ : ∃ n : Nat, x = -(n : Int) := ⟨x.natAbs, by omega⟩
      rw [show ((-(n : Int)).natAbs : Int) = n by omega, Int.neg_tdiv, Int.tdiv_self (by omega)]
    · exact absurd h2 h
    · rw [Int.sign_eq_one_of_pos h2]
      rw [show (x.natAbs : Int) = x by omega, Int.tdiv_self (by omega)]
  rw [e, IntKind.wrap_i64]
  have := LP.sign_le x
  omega
theorem expo_take {xs : List Int} {k : Nat} (hk : k < xs.length) : LP.expo (xs.take (k + 1)) = LP.expo (xs.take k) + Int.sign (xs.getD k 0) := by
  rw [show xs.getD k 0 = xs[k] by simp [List.getD, List.getElem?_eq_getElem hk], List.take_succ_eq_append_getElem hk, LP.expo_append]
  rw [LP.expo_cons, LP.expo_nil, Int.add_zero]

set_option maxRecDepth 100000 in
set_option maxHeartbeats 2000000 in
theorem weight_any (A : Option Addr) (n c : Nat) (xs : List Int) (w : World) (ha : IL w A n xs) (hb : ∀ x ∈ xs, x ≠ 0 ∧ x.natAbs ≤ 1000) :
    Calls Try.prog 9 #[.slice A n c] w fun e w' => e = .returned (.int .i64 (LP.expo xs)) ∧ w' = w := by
  have hl := ha.len
  have hna := ha.small
  have HA := hide ha
  have HL := hide hl
  have HB := hide hb
  clear ha hl hb
  go_enter Try.func9, Try.ntmps9
  go_wp2_with fail
  go_loop [3, 8] (fun sv iv => ∃ (k : Nat) (s : Int), k ≤ n ∧ iv = .int .i64 k ∧ sv = .int .i64 s ∧ s.natAbs ≤ k ∧ Hid (s = LP.expo (xs.take k))) (fun _ iv => n - (intOf iv).toNat)
  case atStart => exact ⟨0, 0, Nat.zero_le _, rfl, rfl, Nat.le_refl _, by rw [List.take_zero]; exact rfl⟩
  case round =>
    obtain ⟨k, s, hk, rfl, rfl, hs, HS⟩ := hrel
    by_cases hlt : k < n
    · obtain ⟨ad, rfl, hcl⟩ := HA.out.at_ hlt
      have hkl : k < xs.length := by rw [HL.out]; exact hlt
      have hm : xs.getD k 0 ∈ xs := by
        rw [show xs.getD k 0 = xs[k] by simp [List.getD, List.getElem?_eq_getElem hkl]]
        exact List.getElem_mem _
      obtain ⟨hx0, hx1⟩ := HB.out _ hm
      have he := expo_take hkl
      rw [← HS.out] at he
      have hq := sign_quo hx0 hx1
      have hsg := LP.sign_le (xs.getD k 0)
      generalize xs.getD k 0 = x at *
      generalize Int.sign x = sg at *
      have hneg : IntKind.i64.wrap (-x) = -x := by rw [IntKind.wrap_i64]; omega
      have hmx : max x (-x) = (x.natAbs : Int) := by omega
      have hz : (x.natAbs : Int) ≠ 0 := by omega
      have HQ := hide hq
      have HN := hide hneg
      have HM := hide hmx
      have HZ := hide hz
      have HE := hide he
      clear hq hneg hmx hz hm he
      go_wp2_with (first
        | ((with_reducible show wpList _ _ _ (Oper.mk _ (.unOp .neg _ _) _ _ _ _ :: _) _ _); refine wpList_gives rfl (gives_neg rfl rfl HN.out) ?_)
        | ((with_reducible show wpList _ _ _ (Oper.mk _ (.call { callee := .builtin .max, args := _, argTypes := _ }) _ _ _ _ :: _) _ _); refine wpList_gives rfl (gives_maxI rfl rfl rfl HM.out) ?_)
        | ((with_reducible show wpList _ _ _ (Oper.mk _ (.binOp .quo _ _ _ _) _ _ _ _ :: _) _ _); refine wpList_gives rfl (gives_quo rfl rfl rfl HZ.out HQ.out) ?_))
      go_round
      case rel => exact ⟨k + 1, s + sg, by omega, by go_num, by go_num, by omega, HE.out.symm⟩
      case measure => simp [intOf]; omega
    · have HE : Hid (s = LP.expo xs) := hide (by rw [HS.out, List.take_of_length_le (by rw [HL.out]; omega)])
      clear HS
      go_wp2
      go_ret
      exact ⟨by rw [HE.out]; rfl, rfl⟩
end Go.Proofs.Ytllalncbajpodaa
/- Maps from integers to integers as lists of terms; a range over one, whatever its order. -/
namespace Go.Proofs.Ytllalncbajpodaa
set_option linter.unusedVariables false
set_option linter.unusedSimpArgs false
open Go.RowKit Go.Maps

theorem keyI : Keyed Try.prog 3 := int_keyed Try.underlying3
theorem keyI_mk {x : Int} (h : (Lit.int .i64 x).wf = true) : keyOf Try.prog 3 (.int .i64 x) = some (.int .i64 x) := keyOf_int_mk Try.underlying3 h
theorem wfI {x : Int} (h : x.natAbs ≤ 4000000000000000000) : (Lit.int .i64 x).wf = true := by
  have h1 : IntKind.i64.min = -9223372036854775808 := by decide
  simp [Lit.wf, h1]
  omega
/-- The element at a key. -/
def lookT : List Tm → Int → Option Int
  | [], _ => none
  | (e, c) :: l, x => if e = x then some c else lookT l x
def lookV (o : List Tm) : Value → Option Value
  | .int .i64 x => (lookT o x).map (Value.int .i64)
  | _ => none
theorem lookT_none : ∀ {o : List Tm} {x : Int}, lookT o x = none ↔ ∀ p ∈ o, p.1 ≠ x
  | [], x => by simp [lookT]
  | (e, c) :: l, x => by
    unfold lookT
    by_cases h : e = x
    · rw [if_pos h]; simp [h]
    · rw [if_neg h, lookT_none]; simp [h]
theorem lookT_mem : ∀ {o : List Tm} {x c : Int}, lookT o x = some c → (x, c) ∈ o
  | [], x, c, h => by cases h
  | (e, d) :: l, x, c, h => by
    unfold lookT at h
    by_cases he : e = x
    · rw [if_pos he] at h
      injection h with h
      subst he; subst h
      exact List.mem_cons_self
    · rw [if_neg he] at h
      exact List.mem_cons_of_mem _ (lookT_mem h)
theorem lookT_of_mem : ∀ {o : List Tm} {x c : Int}, (o.map (·.1)).Nodup → (x, c) ∈ o → lookT o x = some c
  | (e, d) :: l, x, c, hn, h => by
    have hn' := List.nodup_cons.1 hn
    unfold lookT
    rcases List.mem_cons.1 h with h | h
    · injection h with h1 h2
      subst h1; subst h2
      rw [if_pos rfl]
    · have : e ≠ x := fun e' => hn'.1 (by rw [e']; exact List.mem_map.2 ⟨(x, c), h, rfl⟩)
      rw [if_neg this]
      exact lookT_of_mem hn'.2 h
theorem coefT_not {o : List Tm} {x : Int} (h : ∀ p ∈ o, p.1 ≠ x) : coefT o x = 0 := by
  induction o with
  | nil => rfl
  | cons p l ih =>
    show (if p.1 = x then p.2 else 0) + coefT l x = 0
    rw [if_neg (h p (by simp)), ih fun q hq => h q (by simp [hq])]
    rfl
theorem coefT_look : ∀ {o : List Tm} {x : Int}, (o.map (·.1)).Nodup → coefT o x = (lookT o x).getD 0
  | [], x, _ => rfl
  | (e, d) :: l, x, hn => by
    have hn' := List.nodup_cons.1 hn
    show (if e = x then d else 0) + coefT l x = _
    unfold lookT
    by_cases h : e = x
    · rw [if_pos h, if_pos h, coefT_not fun p hp e' => hn'.1 (by rw [h, ← e']; exact List.mem_map.2 ⟨p, hp, rfl⟩)]
      show d + 0 = d
      omega
    · rw [if_neg h, if_neg h, coefT_look hn'.2, Int.zero_add]
/-- v is put at x. -/
def putT : List Tm → Int → Int → List Tm
  | [], x, v => [(x, v)]
  | (e, c) :: l, x, v => if e = x then (x, v) :: l else (e, c) :: putT l x v
theorem putT_keys : ∀ (o : List Tm) (x v : Int), ∀ p ∈ putT o x v, p ∈ o ∨ p = (x, v)
  | [], x, v, p, h => .inr (by simpa [putT] using h)
  | (e, c) :: l, x, v, p, h => by
    unfold putT at h
    by_cases he : e = x
    · rw [if_pos he] at h
      rcases List.mem_cons.1 h with h | h
      · exact .inr h
      · exact .inl (List.mem_cons_of_mem _ h)
    · rw [if_neg he] at h
      rcases List.mem_cons.1 h with h | h
      · exact .inl (by rw [h]; exact List.mem_cons_self)
      · rcases putT_keys l x v p h with h | h
        · exact .inl (List.mem_cons_of_mem _ h)
        · exact .inr h
theorem putT_look : ∀ (o : List Tm) (x v y : Int), lookT (putT o x v) y = if y = x then some v else lookT o y
  | [], x, v, y => by
    show (if x = y then some v else none) = if y = x then some v else none
    by_cases h : x = y
    · rw [if_pos h, if_pos h.symm]
    · rw [if_neg h, if_neg fun e => h e.symm]
  | (e, c) :: l, x, v, y => by
    unfold putT
    by_cases he : e = x
    · rw [if_pos he]
      show (if x = y then some v else lookT l y) = if y = x then some v else if e = y then some c else lookT l y
      by_cases h : x = y
      · rw [if_pos h, if_pos h.symm]
      · rw [if_neg h, if_neg fun e' => h e'.symm, if_neg (by omega)]
    · rw [if_neg he]
      show (if e = y then some c else lookT (putT l x v) y) = if y = x then some v else if e = y then some c else lookT l y
      rw [putT_look l x v y]
      by_cases h : e = y
      · rw [if_pos h, if_pos h, if_neg (by omega)]
      · rw [if_neg h, if_neg h]
theorem putT_nodup : ∀ (o : List Tm) (x v : Int), (o.map (·.1)).Nodup → ((putT o x v).map (·.1)).Nodup
  | [], x, v, _ => by simp [putT]
  | (e, c) :: l, x, v, h => by
    have h' := List.nodup_cons.1 h
    unfold putT
    by_cases he : e = x
    · rw [if_pos he]
      subst he
      exact h
    · rw [if_neg he]
      refine List.nodup_cons.2 ⟨fun hm => ?_, putT_nodup l x v h'.2⟩
      obtain ⟨p, hp, e1⟩ := List.mem_map.1 hm
      rcases putT_keys l x v p hp with h1 | h1
      · exact h'.1 (by rw [← show p.1 = e from e1]; exact List.mem_map.2 ⟨p, h1, rfl⟩)
      · rw [h1] at e1
        exact he e1.symm
theorem putT_length : ∀ (o : List Tm) (x v : Int), (putT o x v).length = if (lookT o x).isSome then o.length else o.length + 1
  | [], x, v => rfl
  | (e, c) :: l, x, v => by
    unfold putT lookT
    by_cases he : e = x
    · rw [if_pos he, if_pos he]; rfl
    · rw [if_neg he, if_neg he]
      show (putT l x v).length + 1 = _
      rw [putT_length l x v]
      split <;> rfl
theorem coefT_put {o : List Tm} {x v : Int} (h : (o.map (·.1)).Nodup) (y : Int) : coefT (putT o x v) y = if y = x then v else coefT o y := by
  rw [coefT_look (putT_nodup o x v h), putT_look, coefT_look h]
  split <;> rfl
/-- Distinct keys from a small range are few. -/
theorem nodup_leT {o : List Tm} {E : Nat} (h : (o.map (·.1)).Nodup) (hk : ∀ p ∈ o, p.1.natAbs ≤ E) : o.length ≤ 2 * E + 1 := by
  have h1 : (o.map fun p : Tm => (p.1 + (E : Int)).toNat).Nodup := by
    rw [show (o.map fun p : Tm => (p.1 + (E : Int)).toNat) = (o.map (·.1)).map fun x : Int => (x + (E : Int)).toNat by rw [List.map_map]; rfl]
    unfold List.Nodup at h ⊢
    rw [List.pairwise_map]
    refine h.imp_of_mem fun {a b} ha hb hne e => hne ?_
    obtain ⟨p, hp, rfl⟩ := List.mem_map.1 ha
    obtain ⟨q, hq, rfl⟩ := List.mem_map.1 hb
    have := hk p hp
    have := hk q hq
    have e : (p.1 + (E : Int)).toNat = (q.1 + (E : Int)).toNat := e
    show p.1 = q.1
    omega
  have h2 := nodup_length_le (2 * E + 1) _ h1 fun x hx => by
    obtain ⟨p, hp, rfl⟩ := List.mem_map.1 hx
    have := hk p hp
    show (p.1 + (E : Int)).toNat < 2 * E + 1
    omega
  simpa using h2

/-- Block b is a map with just the entries o. -/
structure MapI (w : World) (b : Nat) (o : List Tm) : Prop where
  dict : Dict Try.prog 3 w b o.length (lookV o)
  nodup : (o.map (·.1)).Nodup
section
variable {w w' : World} {b : Nat} {o : List Tm}
theorem MapI.lt (h : MapI w b o) : b < w.heap.size := h.dict.lt
theorem MapI.below (h : MapI w b o) (hb : Below w.heap.size w w') : MapI w' b o := ⟨h.dict.below hb, h.nodup⟩
theorem MapI.kept {row : Option Nat} (h : MapI w b o) (hg : w.grownBy w' row) (hne : some b ≠ row) : MapI w' b o := ⟨h.dict.kept hg hne, h.nodup⟩
theorem MapI.made (w : World) : MapI (w.alloc (.map #[] 0)) w.heap.size [] := ⟨(Dict.made w _ _).congr rfl fun key kl _ => by unfold lookV; split <;> rfl, List.nodup_nil⟩
theorem MapI.look (h : MapI w b o) {t : TypeId} (ht : Try.prog.underlying t = some (.map 3 3)) {x : Int} (hx : (Lit.int .i64 x).wf = true) :
    (Instr.lookup t (.map (some b)) (.int .i64 x) false).run Try.prog w = .ok (.int .i64 (coefT o x)) w := by
  rw [h.dict.look keyI ht (z := .int .i64 0) (by kernel_rfl) (keyI_mk hx), coefT_look h.nodup]
  have e : lookV o (.int .i64 x) = (lookT o x).map (Value.int .i64) := rfl
  rw [e]
  cases lookT o x <;> rfl
theorem MapI.store (h : MapI w b o) {t : TypeId} (ht : Try.prog.underlying t = some (.map 3 3)) {x v : Int} (hx : (Lit.int .i64 x).wf = true) (hn : o.length < 1000000) :
    ∃ w', (Instr.mapUpdate t (.map (some b)) (.int .i64 x) (.int .i64 v)).run Try.prog w = .ok () w' ∧ MapI w' b (putT o x v) ∧ w.grownBy w' (some b) ∧ w'.heap.size = w.heap.size := by
  obtain ⟨w', h1, h2, h3, h4⟩ := h.dict.store keyI ht (by unfold maxLen; omega) (keyI_mk hx) (.int .i64 v) (f' := lookV (putT o x v)) (by
    show ((lookT (putT o x v) x).map _) = _
    rw [putT_look, if_pos rfl]; rfl) (fun y l hy hne => by
    obtain ⟨z, rfl, _, _⟩ := keyOf_int_inv Try.underlying3 hy
    show ((lookT (putT o x v) z).map _) = (lookT o z).map _
    rw [putT_look, if_neg fun e => hne (by rw [e])])
  refine ⟨w', h1, ⟨h2.congr ?_ fun _ _ _ => rfl, putT_nodup o x v h.nodup⟩, h3, h4⟩
  rw [putT_length]
  show (if ((lookT o x).map (Value.int .i64)).isSome = true then _ else _) = _
  rw [Option.isSome_map]
end

/-! ### a range -/
/-- A range over the map with entries T: done and rem(aining). -/
structure RangeI (w : World) (b r : Nat) (T done rem : List Tm) (cnt : Nat) : Prop where
  nodup : (T.map (·.1)).Nodup
  perm : (done ++ rem).Perm T
  run : ∃ (n : Nat) (D : DataW Value) (left : Lit → Bool), w.ranges Try.prog 3 HR b r n D left cnt ∧ (∀ p ∈ T, ∀ z, D.atKey (.int .i64 p.1) z = .held (.int .i64 p.2)) ∧ (∀ x : Int, (Lit.int .i64 x).wf = true → (left (.int .i64 x) = true ↔ ∃ c, (x, c) ∈ rem)) ∧ ∀ p ∈ T, (Lit.int .i64 p.1).wf = true
section
variable {w w' : World} {b r cnt : Nat} {T done rem : List Tm}
theorem RangeI.kept {row : Option Nat} (h : RangeI w b r T done rem cnt) (hg : w.grownBy w' row) (hb : some b ≠ row) (hr : some r ≠ row) : RangeI w' b r T done rem cnt := by
  obtain ⟨n, D, left, h1, h2⟩ := h.run
  exact ⟨h.nodup, h.perm, n, D, left, h1.kept hg hb hr, h2⟩
theorem RangeI.left_eq (h : RangeI w b r T done rem cnt) : w.rangeLeft b r = cnt := by
  obtain ⟨n, D, left, h1, _⟩ := h.run
  exact h1.left_eq
theorem RangeI.lt (h : RangeI w b r T done rem cnt) : r < w.heap.size := by
  obtain ⟨n, D, left, h1, _⟩ := h.run
  exact h1.lt
theorem RangeI.mem (h : RangeI w b r T done rem cnt) : ∀ p ∈ done, p ∈ T := fun p hp => h.perm.subset (List.mem_append_left _ hp)
end
section
variable (w : World) {ops : Array Oper} {rest : List Oper} {o : Oper} {a : Act} {Q : Exit → Act → World → Prop}
theorem wpList_rangeI (hg : o.guard = none) (m : Operand) (t : TypeId) (hop : o.op = Op.range t m) (ht : Try.prog.underlying t = some (.map 3 3)) (b : Nat) (T : List Tm) (hm : a.eval m = .map (some b)) (h : MapI w b T) (hwf : ∀ p ∈ T, (Lit.int .i64 p.1).wf = true)
    (hK : ∀ w' cnt, RangeI w' b w.heap.size T [] T cnt → w.grownBy w' none → w'.heap.size = w.heap.size + 1 → wpList Try.prog ops Q rest (a.put o.dst (.pointer (some ⟨w.heap.size, 0, none⟩))) w') :
    wpList Try.prog ops Q (o :: rest) a w := by
  obtain ⟨D, hD, hT, hs, hf⟩ := h.dict.own
  refine wpList_range_own w hg m t hop 3 3 keyI ht HR b _ D hm hD fun w' hr hgr hsz => hK w' _ ⟨h.nodup, by simp, _, D, Maps.has D, hr, fun p hp z => ?_, fun x hx => ?_, hwf⟩ hgr hsz
  · have := hf (.int .i64 p.1) _ (keyI_mk (hwf p hp))
    have e : lookV T (.int .i64 p.1) = some (.int .i64 p.2) := by
      show (lookT T p.1).map _ = _
      rw [lookT_of_mem h.nodup (show (p.1, p.2) ∈ T from hp)]; rfl
    rw [e] at this
    exact this.2 z
  · have := hf (.int .i64 x) _ (keyI_mk hx)
    have e : lookV T (.int .i64 x) = (lookT T x).map (Value.int .i64) := rfl
    rw [e] at this
    cases hl : lookT T x with
    | none =>
      rw [hl] at this
      have this : Maps.has D (.int .i64 x) = false := this
      rw [this]
      have h0 := lookT_none.1 hl
      exact ⟨fun h => (by cases h), fun ⟨c, hc⟩ => absurd rfl (h0 _ hc)⟩
    | some c =>
      rw [hl] at this
      have this : Maps.has D (.int .i64 x) = true ∧ _ := this
      exact ⟨fun _ => ⟨c, lookT_mem hl⟩, fun _ => this.1⟩
theorem wpList_nextI (hg : o.guard = none) (it : Operand) (hop : o.op = Op.next it false) (b r : Nat) (T done rem : List Tm) (cnt : Nat) (hit : a.eval it = .pointer (some ⟨r, 0, none⟩)) (h : RangeI w b r T done rem cnt)
    (hDone : rem = [] → wpList Try.prog ops Q rest (a.put o.dst (.tuple #[.bool false])) w)
    (hMore : ∀ (x c : Int) (rem' : List Tm) (w' : World) (cnt' : Nat), rem.Perm ((x, c) :: rem') → RangeI w' b r T (done ++ [(x, c)]) rem' cnt' → cnt' < cnt → w.grownBy w' (some r) → w'.heap.size = w.heap.size →
      (Instr.entry (.pointer (some ⟨r, 0, none⟩))).run Try.prog w' = .ok (.tuple #[.int .i64 x, .int .i64 c]) w' → wpList Try.prog ops Q rest (a.put o.dst (.tuple #[.bool true, .int .i64 x, .int .i64 c])) w') :
    wpList Try.prog ops Q (o :: rest) a w := by
  obtain ⟨n, D, left, h1, h2, h3, h4⟩ := h.run
  refine wpList_next_ranges w hg it hop 3 keyI HR (fun v : Value => v) (fun v : Value => v) (fun key kl _ => ⟨key, rfl⟩) (fun v y _ => ⟨v, rfl⟩) b r n D left cnt hit h1 (fun _ hl => hDone ?_) ?_
  · match rem, h3, h.perm with
    | [], _, _ => rfl
    | (x, c) :: l, h3, hp =>
      have hx := h4 _ (hp.subset (List.mem_append_right _ List.mem_cons_self))
      have := (h3 x hx).2 ⟨c, List.mem_cons_self⟩
      rw [hl] at this
      cases this
  · intro key v kl y w' cnt' hkey hlk hv hat hrg hlt hgr hsz hen
    obtain ⟨x, rfl, rfl, hx⟩ := keyOf_int_inv Try.underlying3 hkey
    obtain ⟨c, hc⟩ := (h3 x hx).1 hlk
    have hmT : (x, c) ∈ T := h.perm.subset (List.mem_append_right _ hc)
    have hvy := HR_inv (v := v) (d := y.1) (ps := y.2) hv
    have e1 := h2 _ hmT (.held v)
    rw [hat, hvy] at e1
    injection e1 with e1
    subst e1
    obtain ⟨l1, l2, hl⟩ := List.append_of_mem hc
    have hp2 : rem.Perm ((x, c) :: (l1 ++ l2)) := by rw [hl]; exact List.perm_middle
    have hperm : (done ++ [(x, c)] ++ (l1 ++ l2)).Perm T := by
      refine List.Perm.trans ?_ h.perm
      rw [List.append_assoc]
      exact List.Perm.append_left done hp2.symm
    have hnd : ((done ++ [(x, c)] ++ (l1 ++ l2)).map (·.1)).Nodup := (hperm.map (·.1)).nodup_iff.2 h.nodup
    refine hMore x c (l1 ++ l2) w' cnt' hp2 ⟨h.nodup, hperm, n, D, _, hrg, h2, fun z hz => ?_, h4⟩ hlt hgr hsz hen
    show (left (.int .i64 z) && !(Lit.int .i64 z).sameKey (.int .i64 x)) = true ↔ _
    have hnx : ∀ d, (x, d) ∉ l1 ++ l2 := fun d hd => by
      rw [List.map_append, List.map_append] at hnd
      have h5 := (List.nodup_append.1 hnd).2.2 x (List.mem_append_right _ (by simp)) x (List.mem_map.2 ⟨(x, d), hd, rfl⟩)
      exact h5 rfl
    by_cases e : z = x
    · subst e
      have : (Lit.int .i64 z).sameKey (.int .i64 z) = true := by simp [Lit.sameKey]
      rw [this]
      simp only [Bool.not_true, Bool.and_false]
      exact ⟨fun h => (by cases h), fun ⟨d, hd⟩ => absurd hd (hnx d)⟩
    · have : (Lit.int .i64 z).sameKey (.int .i64 x) = false := by simp [Lit.sameKey, e]
      rw [this]
      simp only [Bool.not_false, Bool.and_true]
      rw [h3 z hz]
      constructor
      · rintro ⟨d, hd⟩
        refine ⟨d, ?_⟩
        rcases List.mem_cons.1 (hp2.subset hd) with h | h
        · injection h with h _; exact absurd h e
        · exact h
      · rintro ⟨d, hd⟩
        exact ⟨d, hp2.symm.subset (List.mem_cons_of_mem _ hd)⟩
end
end Go.Proofs.Ytllalncbajpodaa
/- timbref1.Split; the walk's laws for a map of terms. -/
namespace Go.Proofs.Ytllalncbajpodaa
set_option linter.unusedVariables false
set_option linter.unusedSimpArgs false
open Go.RowKit Go.Maps

theorem ut : Try.prog.underlying 34 = some (.map 3 3) := Try.underlying34
theorem MapI.setCell {w : World} {b : Nat} {o : List Tm} (h : MapI w b o) {g : Addr} (hg : b ≠ g.block) (v : Value) : MapI (w.setCell g v) b o := ⟨h.dict.setCell hg v, h.nodup⟩
/-- What is in a map of terms is the coefficient. -/
theorem MapI.val {w : World} {b : Nat} {o : List Tm} (h : MapI w b o) {x c : Int} (hm : (x, c) ∈ o) : coefT o x = c := by rw [coefT_look h.nodup, lookT_of_mem h.nodup hm]; rfl
section
variable (w : World) {ops : Array Oper} {rest : List Oper} {o : Oper} {a : Act} {Q : Exit → Act → World → Prop}
theorem wpList_lookI (hg : o.guard = none) (m x : Operand) (t : TypeId) (hop : o.op = Op.lookup t m x false) (ht : Try.prog.underlying t = some (.map 3 3)) (b : Nat) (T : List Tm) (y : Int) (hm : a.eval m = .map (some b)) (h : MapI w b T) (hx : a.eval x = .int .i64 y) (hy : (Lit.int .i64 y).wf = true)
    (hK : wpList Try.prog ops Q rest (a.put o.dst (.int .i64 (coefT T y))) w) : wpList Try.prog ops Q (o :: rest) a w := by
  refine wpList_plain hg fun K' hK' => ?_
  unfold Oper.wp
  simp [execOp, hop, hm, hx, h.look ht hy, Result.andThen]
  exact hK' _ _ hK
theorem wpList_putI (hg : o.guard = none) (m x v : Operand) (t : TypeId) (hop : o.op = Op.mapUpdate t m x v) (ht : Try.prog.underlying t = some (.map 3 3)) (b : Nat) (T : List Tm) (y z : Int) (hm : a.eval m = .map (some b)) (h : MapI w b T) (hn : T.length < 1000000) (hx : a.eval x = .int .i64 y) (hv : a.eval v = .int .i64 z) (hy : (Lit.int .i64 y).wf = true)
    (hK : ∀ w', MapI w' b (putT T y z) → w.grownBy w' (some b) → w'.heap.size = w.heap.size → wpList Try.prog ops Q rest (a.put o.dst undef) w') : wpList Try.prog ops Q (o :: rest) a w := by
  refine wpList_plain hg fun K' hK' => ?_
  obtain ⟨w', hrun, r1, r2, r3⟩ := h.store ht hy (v := z) hn
  unfold Oper.wp
  simp [execOp, hop, hm, hx, hv, hrun, Result.andThen]
  exact hK' _ _ (hK w' r1 r2 r3)
end
/-- A new map of terms that reads as x; its keys are not far off. -/
def GivesT (w : World) (x : LP) (E : Nat) (e : Ending) (w' : World) : Prop :=
  ∃ b o, e = .returned (.map (some b)) ∧ w.heap.size ≤ b ∧ MapI w' b o ∧ LP.mk o = x ∧ (∀ p ∈ o, p.1.natAbs ≤ E) ∧ Below w.heap.size w w'
theorem putT_mk {o : List Tm} (hn : (o.map (·.1)).Nodup) {x : LP} (hx : LP.mk o = x) (e v : Int) (c : Int) (hv : v = coefT o e + c) : LP.mk (putT o e v) = x + LP.term e c := LP.ext fun k => by
  subst hx hv
  rw [LP.co_add, LP.co_term, LP.co_mk, LP.co_mk, coefT_put hn]
  by_cases h : k = e
  · rw [if_pos h, if_pos h.symm, h]
  · rw [if_neg h, if_neg (fun e => h e.symm), Int.add_zero]
theorem LP.of_snoc (lo : Int) (cs : List Int) (c : Int) : LP.of lo (cs ++ [c]) = LP.of lo cs + LP.term (lo + cs.length) c := LP.ext fun k => by
  rw [LP.co_add, LP.co_term, LP.co_of, LP.co_of, List.length_append]
  simp only [List.length_singleton]
  by_cases h1 : lo + cs.length = k
  · rw [if_pos h1, if_pos (by omega), if_neg (by omega), Int.zero_add]
    have : (k - lo).toNat = cs.length := by omega
    rw [this]
    simp [List.getD]
  · rw [if_neg h1, Int.add_zero]
    by_cases h2 : lo ≤ k ∧ k < lo + cs.length
    · rw [if_pos h2, if_pos (by omega)]
      have : (k - lo).toNat < cs.length := by omega
      simp [List.getD, List.getElem?_append_left this]
    · rw [if_neg h2, if_neg (by omega)]
theorem LP.term_zero (e : Int) : LP.term e 0 = 0 := LP.ext fun k => by rw [LP.co_term, LP.co_zero]; split <;> rfl

end Go.Proofs.Ytllalncbajpodaa
