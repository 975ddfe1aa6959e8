/- Plain mathematics: powers and the order of a permutation. -/
import Derived.Test.YtnpdlfnhpghkmaaMath4
namespace Go.Proofs.Ytnpdlfnhpghkmaa
set_option linter.unusedVariables false
set_option linter.unusedSimpArgs false

/-- The power of a permutation. -/
def powN (a : List Nat) (m : Nat) : List Nat := (List.range a.length).map (it a m)
theorem powN_length (a : List Nat) (m : Nat) : (powN a m).length = a.length := by simp [powN]
theorem powN_zero (a : List Nat) : powN a 0 = List.range a.length := by
  unfold powN
  conv => rhs; rw [← List.map_id (List.range a.length)]
  rfl
theorem powN_succ (a : List Nat) (m : Nat) : comp (powN a m) a = powN a (m + 1) := by
  unfold comp powN
  rw [List.map_map]
  rfl
theorem powN_getD {a : List Nat} {m j : Nat} (hj : j < a.length) : (powN a m).getD j 0 = it a m j := by
  simp [powN, List.getD, hj]
theorem powN_lt {a : List Nat} (h : isP a) (m : Nat) : ∀ x ∈ powN a m, x < a.length := by
  intro x hx
  obtain ⟨s, hs, rfl⟩ := List.mem_map.1 hx
  exact it_lt h (List.mem_range.1 hs) m
theorem powN_isP {a : List Nat} (h : isP a) (m : Nat) : isP (powN a m) := by
  refine isP_of ?_ ?_
  · intro j hj
    rw [powN_length] at hj ⊢
    rw [powN_getD hj]
    exact it_lt h hj m
  · intro i j hi hj he
    rw [powN_length] at hi hj
    rw [powN_getD hi, powN_getD hj] at he
    exact it_inj h hi hj m he
theorem powN_comp {a : List Nat} (h : isP a) (u v : Nat) : comp (powN a u) (powN a v) = powN a (u + v) := by
  refine list_ext_getD (by simp [comp_length, powN_length]) ?_
  intro j hj
  rw [comp_length, powN_length] at hj
  rw [comp_getD (by rw [powN_length]; exact hj), powN_getD hj, powN_getD (it_lt h hj u), powN_getD hj, Nat.add_comm u v, it_add]

/-- a applied t times is the identity on s just if the length of its cycle divides t. -/
theorem it_self {a : List Nat} (h : isP a) {s : Nat} (hs : s < a.length) (t : Nat) : it a t s = s ↔ perOf a s ∣ t := by
  obtain ⟨h1, _, h3, h4⟩ := per_spec h hs
  constructor
  · intro e
    rw [← it_mod h3] at e
    have hlt := Nat.mod_lt t (show perOf a s > 0 by omega)
    rcases Nat.eq_zero_or_pos (t % perOf a s) with h0 | h0
    · exact Nat.dvd_of_mod_eq_zero h0
    · exact absurd e (h4 _ h0 hlt)
  · rintro ⟨k, rfl⟩
    rw [Nat.mul_comm]
    exact it_mul h3 k
/-- All of one cycle have cycles of one length. -/
theorem per_cyc {a : List Nat} (h : isP a) {s x : Nat} (hs : s < a.length) (hx : x ∈ cyc a s) : perOf a x = perOf a s := by
  have key : ∀ {s x : Nat}, s < a.length → x ∈ cyc a s → perOf a x ∣ perOf a s := by
    intro s x hs hx
    have hxl := cyc_lt h hs hx
    obtain ⟨t, rfl⟩ := (mem_cyc h hs).1 hx
    refine (it_self h hxl _).1 ?_
    rw [← it_add, Nat.add_comm, it_add, (per_spec h hs).2.2.1]
  exact Nat.dvd_antisymm (key hs hx) (key (cyc_lt h hs hx) (cyc_symm h hs hx))
/-- Each cycle has a smallest element. -/
theorem min_ex {a : List Nat} (h : isP a) {s : Nat} (hs : s < a.length) : ∃ m, m < a.length ∧ m ∈ cyc a s ∧ isMin a m = true := by
  have hf : ∀ (n : Nat), (∃ x, x ∈ cyc a s ∧ x < n) → ∃ m, m ∈ cyc a s ∧ ∀ x ∈ cyc a s, m ≤ x := by
    intro n
    induction n with
    | zero => rintro ⟨x, _, hx⟩; omega
    | succ n ih =>
      rintro ⟨x, hx, hlt⟩
      by_cases hn : ∃ y, y ∈ cyc a s ∧ y < n
      · exact ih hn
      · refine ⟨x, hx, fun y hy => ?_⟩
        apply Classical.byContradiction
        intro hc
        exact hn ⟨y, hy, by omega⟩
  obtain ⟨m, hm, hall⟩ := hf a.length ⟨s, cyc_self h hs, hs⟩
  have hml := cyc_lt h hs hm
  refine ⟨m, hml, hm, ?_⟩
  unfold isMin
  rw [decide_eq_true_iff]
  intro x hx
  exact hall x (cyc_trans h hs hm hx)

/-- The least common multiple of the lengths. -/
def ordL (xss : List (List Nat)) : Nat := xss.foldl (fun o c => Nat.lcm o c.length) 1
theorem foldl_lcm_dvd : ∀ (xss : List (List Nat)) (o m : Nat), xss.foldl (fun o c => Nat.lcm o c.length) o ∣ m ↔ o ∣ m ∧ ∀ c ∈ xss, c.length ∣ m
  | [], o, m => by simp
  | c :: r, o, m => by
    rw [List.foldl_cons, foldl_lcm_dvd r, Nat.lcm_dvd_iff]
    simp only [List.mem_cons, forall_eq_or_imp]
    exact ⟨fun ⟨⟨a, b⟩, c⟩ => ⟨a, b, c⟩, fun ⟨a, b, c⟩ => ⟨⟨a, b⟩, c⟩⟩
theorem ordL_dvd (xss : List (List Nat)) (m : Nat) : ordL xss ∣ m ↔ ∀ c ∈ xss, c.length ∣ m := by
  unfold ordL
  rw [foldl_lcm_dvd]
  exact ⟨fun h => h.2, fun h => ⟨Nat.one_dvd m, h⟩⟩
/-- The order divides a number just if this power is the identity. -/
theorem ord_dvd {a : List Nat} (h : isP a) (m : Nat) : ordL (cycs a) ∣ m ↔ powN a m = List.range a.length := by
  rw [ordL_dvd]
  constructor
  · intro hc
    refine list_ext_getD (by simp [powN_length]) ?_
    intro s hs
    rw [powN_length] at hs
    rw [powN_getD hs, range_getD hs, it_self h hs]
    obtain ⟨m0, hm0, hmem, hmin⟩ := min_ex h hs
    rw [← per_cyc h hs hmem]
    by_cases h1 : 1 < perOf a m0
    · rw [← cyc_length]
      refine hc _ (List.mem_map.2 ⟨m0, List.mem_filter.2 ⟨by simpa using hm0, by simp [hmin, h1]⟩, rfl⟩)
    · have := (per_spec h hm0).1
      rw [show perOf a m0 = 1 from by omega]
      exact Nat.one_dvd m
  · intro e c hc
    obtain ⟨s, hs, rfl⟩ := List.mem_map.1 hc
    have hs' : s < a.length := List.mem_range.1 (List.mem_filter.1 hs).1
    rw [cyc_length, ← it_self h hs', ← powN_getD hs', e, range_getD hs']
theorem powN_mod {a : List Nat} (h : isP a) {u v : Nat} (hd : ordL (cycs a) ∣ v) : powN a (u + v) = powN a u := by
  rw [← powN_comp h, (ord_dvd h v).1 hd]
  refine list_ext_getD (by simp [comp_length]) ?_
  intro j hj
  rw [comp_length, powN_length] at hj
  rw [comp_getD (by rw [powN_length]; exact hj), range_getD]
  rw [powN_getD hj]
  exact it_lt h hj u
/-- Powers with exponents that differ by a multiple of the order are the same. -/
theorem powN_congr {a : List Nat} (h : isP a) {u v : Nat} (e : u % ordL (cycs a) = v % ordL (cycs a)) : powN a u = powN a v := by
  have key : ∀ u, powN a u = powN a (u % ordL (cycs a)) := by
    intro u
    conv => lhs; rw [← Nat.mod_add_div u (ordL (cycs a))]
    exact powN_mod h (Nat.dvd_mul_right _ _)
  rw [key u, key v, e]
/-- The power with an integer as its exponent. -/
def powZ (a : List Nat) (k : Int) : List Nat := powN a (k % (ordL (cycs a) : Int)).toNat
theorem powZ_add {a : List Nat} (h : isP a) (ho : 0 < ordL (cycs a)) (i k : Int) : comp (powZ a i) (powZ a k) = powZ a (i + k) := by
  unfold powZ
  rw [powN_comp h]
  refine powN_congr h ?_
  generalize ordL (cycs a) = o at *
  have h1 := Int.emod_nonneg i (show (o : Int) ≠ 0 by omega)
  have h2 := Int.emod_nonneg k (show (o : Int) ≠ 0 by omega)
  have h3 := Int.emod_nonneg (i + k) (show (o : Int) ≠ 0 by omega)
  have e : (((i % (o : Int)).toNat + (k % (o : Int)).toNat : Nat) : Int) % (o : Int) = (((i + k) % (o : Int)).toNat : Int) % (o : Int) := by
    rw [Int.natCast_add, Int.toNat_of_nonneg h1, Int.toNat_of_nonneg h2, Int.toNat_of_nonneg h3, Int.emod_emod_of_dvd _ (Int.dvd_refl _), Int.add_emod i k]
  exact_mod_cast e
theorem powZ_id {a : List Nat} (h : isP a) (ho : 0 < ordL (cycs a)) {j : Nat} (h1 : 1 ≤ j) (h2 : j ≤ ordL (cycs a)) : powZ a (j : Int) = List.range a.length ↔ j = ordL (cycs a) := by
  unfold powZ
  rw [← ord_dvd h]
  have e : ((j : Int) % (ordL (cycs a) : Int)).toNat = j % ordL (cycs a) := by
    rw [← Int.natCast_emod]; rfl
  rw [e]
  generalize ordL (cycs a) = o at *
  constructor
  · intro hd
    apply Classical.byContradiction
    intro hne
    rw [Nat.mod_eq_of_lt (by omega)] at hd
    have := Nat.le_of_dvd (by omega) hd
    omega
  · rintro rfl
    rw [Nat.mod_self]
    exact Nat.dvd_zero _
theorem comp_range {a : List Nat} {n : Nat} (h : ∀ x ∈ a, x < n) : comp a (List.range n) = a := by
  refine list_ext_getD (by simp [comp_length]) ?_
  intro j hj
  rw [comp_length] at hj
  rw [comp_getD hj, range_getD (h _ (getD_mem hj))]
theorem range_comp (a : List Nat) : comp (List.range a.length) a = a := by
  refine list_ext_getD (by simp [comp_length]) ?_
  intro j hj
  rw [comp_length, List.length_range] at hj
  rw [comp_getD (by simpa using hj), range_getD hj]
theorem powN_one (a : List Nat) : powN a 1 = a := by rw [← powN_succ, powN_zero, range_comp]
theorem it_sq {b : List Nat} (h : isP b) {s : Nat} (hs : s < b.length) : ∀ j, it (comp b b) j s = it b (2 * j) s
  | 0 => rfl
  | j + 1 => by
    rw [it, it_sq h hs j, comp_getD (it_lt h hs _), show 2 * (j + 1) = (2 * j + 1) + 1 from by omega]
    rfl
theorem powN_sq {b : List Nat} (h : isP b) (j : Nat) : powN (comp b b) j = powN b (2 * j) := by
  unfold powN
  rw [comp_length]
  exact List.map_congr_left fun s hs => it_sq h (List.mem_range.1 hs) j
/-- One round of Times. -/
theorem times_step {o b : List Nat} {m n : Nat} (hb : isP b) (ho : isP o) (hol : o.length = n) (hbl : b.length = n) :
    comp o (powN b m) = if m % 2 = 1 then comp (comp o b) (powN (comp b b) (m / 2)) else comp o (powN (comp b b) (m / 2)) := by
  rw [powN_sq hb]
  by_cases h : m % 2 = 1
  · rw [if_pos h, comp_assoc (fun x hx => by have := ho.1 x hx; omega)]
    congr 1
    have e := powN_comp hb 1 (2 * (m / 2))
    rw [powN_one] at e
    rw [e]
    congr 1
    omega
  · rw [if_neg h]
    congr 2
    omega
theorem it_inv {a : List Nat} (h : isP a) {s : Nat} (hs : s < a.length) : ∀ t, it (inv a) t (it a t s) = s
  | 0 => rfl
  | t + 1 => by
    have e : it (inv a) (t + 1) (it a (t + 1) s) = it (inv a) t ((inv a).getD (it a (t + 1) s) 0) := by
      rw [it_add (inv a) (it a (t + 1) s) t 1]
      rfl
    rw [e, show it a (t + 1) s = a.getD (it a t s) 0 from rfl, inv_getD_self h (it_lt h hs t), it_inv h hs t]
theorem powZ_neg {a : List Nat} (h : isP a) (ho : 0 < ordL (cycs a)) (t : Nat) : powN (inv a) t = powZ a (-(t : Int)) := by
  unfold powZ
  generalize he : (-(t : Int) % (ordL (cycs a) : Int)).toNat = e
  have hd : ordL (cycs a) ∣ e + t := by
    have h1 := Int.emod_nonneg (-(t : Int)) (show (ordL (cycs a) : Int) ≠ 0 by omega)
    have h2 : ((e : Nat) : Int) = -(t : Int) % (ordL (cycs a) : Int) := by omega
    have h3 : (ordL (cycs a) : Int) ∣ ((e + t : Nat) : Int) := by
      refine Int.dvd_of_emod_eq_zero ?_
      rw [Int.natCast_add, h2, Int.emod_add_emod, Int.add_left_neg]
      exact Int.zero_emod _
    exact Int.natCast_dvd_natCast.1 h3
  have hid := (ord_dvd h (e + t)).1 hd
  refine list_ext_getD (by simp [powN_length, inv_length]) ?_
  intro j hj
  rw [powN_length, inv_length] at hj
  obtain ⟨s, hs, rfl⟩ : ∃ s, s < a.length ∧ it a t s = j := by
    obtain ⟨s, hs, e⟩ := (powN_isP h t).surj (i := j) (by rw [powN_length]; exact hj)
    rw [powN_length] at hs
    rw [powN_getD hs] at e
    exact ⟨s, hs, e⟩
  rw [powN_getD (by rw [inv_length]; exact hj), powN_getD hj, it_inv h hs, ← it_add]
  have := powN_getD (a := a) (m := e + t) hs
  rw [hid, range_getD hs] at this
  exact this
theorem powZ_nat {a : List Nat} (h : isP a) (t : Nat) : powN a t = powZ a (t : Int) := by
  unfold powZ
  refine powN_congr h ?_
  rw [← Int.natCast_emod, Int.toNat_natCast, Nat.mod_mod]
/-- What Times starts from. -/
theorem times_pos {a : List Nat} (h : isP a) (t : Nat) : comp (List.range a.length) (powN a t) = powZ a (t : Int) := by
  rw [← powZ_nat h]
  have := range_comp (powN a t)
  rw [powN_length] at this
  exact this
theorem times_neg {a : List Nat} (h : isP a) (ho : 0 < ordL (cycs a)) (m : Nat) : comp (inv a) (powN (inv a) m) = powZ a (-((m : Int) + 1)) := by
  have e := powN_comp (inv_isP h) 1 m
  rw [powN_one] at e
  rw [e, powZ_neg h ho, show ((1 + m : Nat) : Int) = (m : Int) + 1 from by omega]

end Go.Proofs.Ytnpdlfnhpghkmaa
