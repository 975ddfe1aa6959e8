/- Values, conjugates and normal forms of small polynomials. -/
import Derived.Test.YtgmjighgncpefaaLpG
import Derived.Laws.BitsAllLaws
namespace Go.Proofs.Ytgmjighgncpefaa
set_option linter.unusedVariables false
set_option linter.unusedSimpArgs false
open Go.RowKit
namespace LP
theorem Sm.conj_ {x : LP} {l h : Int} {B : Nat} (hx : Sm x l h B) : Sm (conj x) (-h) (-l) B :=
  ⟨fun k hk => by rw [co_conj] at hk; have := hx.supp _ hk; omega, fun k => by rw [co_conj]; exact hx.le _⟩
theorem conjR_canon {x : LP} (hx : Rt x) (h : Rt (conj x)) : conjR (canon x).1 (canon x).2 = (0, (canon (conj x)).1, (canon (conj x)).2) := by
  unfold Rt at hx
  unfold conjR one1
  rw [if_pos hx, of_canon, fit_ok h]
theorem normR_canon {x : LP} (hx : Rt x) : normR (canon x).1 (canon x).2 = (0, 0, normC (canon x).2) := by
  unfold Rt at hx
  unfold normR one1
  rw [if_pos hx]
theorem evalR_canon {x : LP} (hx : Rt x) {u : Int} (hu : u = 1 ∨ u = -1) : evalE (canon x).1 (canon x).2 u = 0 ∧ evalV (canon x).1 (canon x).2 u = ev (decide (u = -1)) x := by
  unfold Rt at hx
  have h : evalE (canon x).1 (canon x).2 u = 0 := by unfold evalE; rw [if_pos hx, if_pos hu]
  refine ⟨h, ?_⟩
  unfold evalV
  rw [if_pos h, of_canon]
theorem pw_cases (neg : Bool) (e : Int) : pw neg e = 1 ∨ pw neg e = -1 := by unfold pw; split <;> simp
theorem ev_of_le (neg : Bool) {cs : List Int} {lo : Int} {B n : Nat} (hn : cs.length ≤ n) (h : ∀ c ∈ cs, c.natAbs ≤ B) : (ev neg (of lo cs)).natAbs ≤ n * B := by
  unfold ev
  rw [lin_of]
  refine Nat.le_trans (natAbs_sumN (D := B) fun i hi => ?_) (Nat.mul_le_mul_right _ hn)
  rw [Int.natAbs_mul]
  have h1 := h _ (getD_mem' hi)
  rcases pw_cases neg (lo + i) with e | e <;> rw [e] <;> simpa using h1
/-- A unit. -/
theorem canon_term (e s : Int) (hs : s = 1 ∨ s = -1) : canon (of e [s]) = (e, [s]) := canon_of (.inr ⟨by simp, by rcases hs with rfl | rfl <;> decide, by rcases hs with rfl | rfl <;> decide⟩)
theorem of_one (e s : Int) : of e [s] = term e s := by show term e s + 0 = _; rw [CR.add_zero]
theorem norm_unit (x : LP) (e s : Int) (hs : s = 1 ∨ s = -1) : normC (canon (x * of e [s])).2 = normC (canon x).2 := by
  rw [of_one]
  have hc := canon_cano x
  have ho := of_canon x
  by_cases hn : (canon x).2 = []
  · have hx : x = 0 := by
      rw [← ho, hn]; rfl
    rw [hx, CR.zero_mul]
  · have h := canon_unit hc hn e s hs
    rw [ho] at h
    rw [h]
    refine normC_unit hs ?_
    rcases hc with hc | hc
    · exact absurd hc.1 hn
    · exact hc.2.2
end LP
theorem i64_and1 (n : Int) : bits .and .i64 n 1 = n % 2 := by
  have h1 : (BitVec.ofInt 64 1).toNat = 2 ^ 1 - 1 := by decide
  have key : (BitVec.ofInt 64 n &&& BitVec.ofInt 64 1).toNat = (n % ((2 ^ 64 : Nat) : Int)).toNat % 2 ^ 1 := by
    rw [BitVec.toNat_and, BitVec.toNat_ofInt, h1, Nat.and_two_pow_sub_one_eq_mod]
  show IntKind.i64.wrap ((BitVec.ofInt 64 n &&& BitVec.ofInt 64 1).toNat : Nat) = n % 2
  rw [key, IntKind.wrap_i64]
  omega
end Go.Proofs.Ytgmjighgncpefaa
