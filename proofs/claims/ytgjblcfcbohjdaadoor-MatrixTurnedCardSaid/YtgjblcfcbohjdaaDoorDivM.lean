/- The greatest common divisors of the minors, reckoned set by set. -/
import Derived.Test.YtgjblcfcbohjdaaDoorSets
import Derived.Test.YtgjblcfcbohjdaaDoorMatC
namespace Go.Proofs.YtgjblcfcbohjdaaDoor
set_option linter.unusedVariables false
set_option linter.unusedSimpArgs false
open Go.RowKit

/-- d is the greatest common divisor of the minors of k rows of the pairs of sets before (R, C). -/
structure DvI (F : Mtx Int) (m R C k : Nat) (d : Int) : Prop where
  pos : 0 ≤ d
  le : d.natAbs ≤ 720000000000000
  div : ∀ g : Int, g ∣ d ↔ ∀ R' C', (R' < R ∨ (R' = R ∧ C' < C)) → C' < 2 ^ m → sizeN R' = k → sizeN C' = k → g ∣ mnr F R' C'
theorem DvI.start (F : Mtx Int) (m k : Nat) : DvI F m 0 0 k 0 := ⟨Int.le_refl _, by decide, fun g => ⟨fun _ R' C' h => absurd h (by omega), fun _ => Int.dvd_zero g⟩⟩
theorem DvI.skip_ {F : Mtx Int} {m R C k : Nat} {d : Int} (h : DvI F m R C k d) (hs : ¬(sizeN R = k ∧ sizeN C = k)) : DvI F m R (C + 1) k d :=
  ⟨h.pos, h.le, fun g => by
    rw [h.div]
    constructor
    · intro h1 R' C' h2 h3 h4 h5
      by_cases e : R' = R ∧ C' = C
      · obtain ⟨rfl, rfl⟩ := e; exact absurd ⟨h4, h5⟩ hs
      · exact h1 R' C' (by omega) h3 h4 h5
    · intro h1 R' C' h2 h3 h4 h5
      exact h1 R' C' (by omega) h3 h4 h5⟩
theorem DvI.add_ {F : Mtx Int} {m R C k : Nat} {d : Int} (h : DvI F m R C k d) (hC : C < 2 ^ m) (hR : sizeN R = k) (hc : sizeN C = k) (hl : (mnr F R C).natAbs ≤ 720000000000000) : DvI F m R (C + 1) k (Int.gcd d (mnr F R C) : Nat) :=
  ⟨Int.natCast_nonneg _, by have := gcd_le h.le hl; omega, fun g => by
    rw [dvd_gcd_int, h.div]
    constructor
    · intro ⟨h1, h6⟩ R' C' h2 h3 h4 h5
      by_cases e : R' = R ∧ C' = C
      · obtain ⟨rfl, rfl⟩ := e; exact h6
      · exact h1 R' C' (by omega) h3 h4 h5
    · intro h1
      exact ⟨fun R' C' h2 h3 h4 h5 => h1 R' C' (by omega) h3 h4 h5, h1 R C (by omega) hC hR hc⟩⟩
theorem DvI.row_ {F : Mtx Int} {m R k : Nat} {d : Int} (h : DvI F m R (2 ^ m) k d) : DvI F m (R + 1) 0 k d :=
  ⟨h.pos, h.le, fun g => by
    rw [h.div]
    constructor
    · intro h1 R' C' h2 h3 h4 h5
      exact h1 R' C' (by omega) h3 h4 h5
    · intro h1 R' C' h2 h3 h4 h5
      exact h1 R' C' (by omega) h3 h4 h5⟩
theorem DvI.end_ {F : Mtx Int} {n m k : Nat} {d : Int} (h : DvI F m (2 ^ n) 0 k d) (hn : n ≤ 6) (hm : m ≤ 6) (hk : k ≤ 6) (g : Int) : g ∣ d ↔ DivAll n m k F g := by
  rw [h.div, div_inc]
  constructor
  · intro h1 rows cols h2 h3
    obtain ⟨R, r1, r2, r3⟩ := inc_set hn hk h2
    obtain ⟨C, c1, c2, c3⟩ := inc_set hm hk h3
    have h4 := h1 R C (by omega) c1 r3 c3
    unfold mnr at h4
    rw [if_pos (by omega), r2, c2, r3] at h4
    exact h4
  · intro h1 R C h2 h3 h4 h5
    have hR : R < 2 ^ n := by omega
    have h6 := h1 (bitsL R) (bitsL C) (by rw [← h4]; exact inc_bits hn hR) (by rw [← h5]; exact inc_bits hm h3)
    unfold mnr
    rw [if_pos (by omega), h4]
    exact h6
theorem DvI.eq_ {F : Mtx Int} {n m k : Nat} {d : Int} {s : Nat → Int} (h : DvI F m (2 ^ n) 0 k d) (hn : n ≤ 6) (hm : m ≤ 6) (hk : k ≤ min n m) (hs : ∀ i, i + 1 < min n m → s i ∣ s (i + 1)) (he : El n m F (diagM s)) : d = ((prodF s k).natAbs : Int) := by
  have h1 : d.natAbs = (prodF s k).natAbs := natAbs_of_dvd fun g => by rw [h.end_ hn hm (by omega) g, smith_div hs he hk]
  have := h.pos
  omega
/-- The list of them. -/
structure DvL (F : Mtx Int) (m K R C : Nat) (ds : List Int) : Prop where
  len : ds.length = K + 1
  at_ : ∀ k, k ≤ K → DvI F m R C k (ds.getD k 0)
section
variable {F : Mtx Int} {n m K R C : Nat} {ds : List Int}
theorem DvL.start (F : Mtx Int) (m K : Nat) : DvL F m K 0 0 (List.replicate (K + 1) 0) := ⟨by simp, fun k hk => by
  rw [show (List.replicate (K + 1) (0 : Int)).getD k 0 = 0 by simp [List.getD, List.getElem?_replicate]; split <;> rfl]
  exact DvI.start F m k⟩
theorem DvL.skip_ (h : DvL F m K R C ds) (hs : sizeN R ≠ sizeN C) : DvL F m K R (C + 1) ds := ⟨h.len, fun k hk => (h.at_ k hk).skip_ (by omega)⟩
theorem DvL.add_ (h : DvL F m K R C ds) (hC : C < 2 ^ m) (hs : sizeN R = sizeN C) (hl : (mnr F R C).natAbs ≤ 720000000000000) (hK : sizeN R ≤ K) : DvL F m K R (C + 1) (ds.set (sizeN R) (Int.gcd (ds.getD (sizeN R) 0) (mnr F R C) : Nat)) :=
  ⟨by rw [List.length_set]; exact h.len, fun k hk => by
    by_cases e : k = sizeN R
    · subst e
      rw [show (ds.set (sizeN R) ((Int.gcd (ds.getD (sizeN R) 0) (mnr F R C) : Nat) : Int)).getD (sizeN R) 0 = ((Int.gcd (ds.getD (sizeN R) 0) (mnr F R C) : Nat) : Int) by
        rw [List.getD_eq_getElem?_getD, List.getElem?_set_self (by rw [h.len]; omega)]; rfl]
      exact (h.at_ _ hK).add_ hC rfl hs.symm hl
    · rw [show (ds.set (sizeN R) ((Int.gcd (ds.getD (sizeN R) 0) (mnr F R C) : Nat) : Int)).getD k 0 = ds.getD k 0 by
        rw [List.getD_eq_getElem?_getD, List.getElem?_set_ne (fun e2 => e e2.symm), ← List.getD_eq_getElem?_getD]]
      exact (h.at_ k hk).skip_ (by omega)⟩
theorem DvL.row_ (h : DvL F m K R (2 ^ m) ds) : DvL F m K (R + 1) 0 ds := ⟨h.len, fun k hk => (h.at_ k hk).row_⟩
end
/-- What it comes to. -/
noncomputable def dvL (s : Nat → Int) (K : Nat) : List Int := (List.range (K + 1)).map fun k => ((prodF s k).natAbs : Int)
theorem dvL_length (s : Nat → Int) (K : Nat) : (dvL s K).length = K + 1 := by simp [dvL]
theorem dvL_getD (s : Nat → Int) {K k : Nat} (h : k ≤ K) : (dvL s K).getD k 0 = ((prodF s k).natAbs : Int) := by
  have h2 : k < K + 1 := by omega
  simp [dvL, List.getD, h2]
theorem DvL.eq_ {F : Mtx Int} {n m : Nat} {ds : List Int} (h : DvL F m (min n m) (2 ^ n) 0 ds) (hn : n ≤ 6) (hm : m ≤ 6) {s : Nat → Int} (hs : ∀ i, i + 1 < min n m → s i ∣ s (i + 1)) (he : El n m F (diagM s)) : ds = dvL s (min n m) := by
  apply List.ext_getElem
  · rw [h.len, dvL_length]
  · intro k h1 h2
    have hk : k ≤ min n m := by have := h.len; omega
    have e := (h.at_ k hk).eq_ hn hm hk hs he
    have e2 := dvL_getD s hk
    rw [← e2] at e
    simpa [List.getD, List.getElem?_eq_getElem h1, List.getElem?_eq_getElem h2] using e
/-- The factors out of them. -/
theorem fac_quo {s : Nat → Int} {N : Nat} (h : ∀ i, i + 1 < N → s i ∣ s (i + 1)) {i : Nat} (hi : i < N) :
    (if ((prodF s i).natAbs : Int) = 0 then (0 : Int) else ((prodF s (i + 1)).natAbs : Int).tdiv ((prodF s i).natAbs : Int)) = ((s i).natAbs : Int) := by
  split
  · next h0 =>
    have : prodF s i = 0 := by omega
    rw [prodF_chain h i hi this]
    rfl
  · next h0 =>
    have e : prodF s (i + 1) = prodF s i * s i := rfl
    rw [e, Int.natAbs_mul, Int.natCast_mul, Int.mul_tdiv_cancel_left _ h0]
end Go.Proofs.YtgjblcfcbohjdaaDoor
