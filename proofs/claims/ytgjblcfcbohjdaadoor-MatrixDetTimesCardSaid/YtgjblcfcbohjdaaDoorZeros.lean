/- timbref1.Zeros: solutions are counted by trying all vectors. -/
import Derived.Test.YtgjblcfcbohjdaaDoorMatC
import Derived.Test.YtgjblcfcbohjdaaDoorVisit
namespace Go.Proofs.YtgjblcfcbohjdaaDoor
set_option linter.unusedVariables false
set_option linter.unusedSimpArgs false
open Go.RowKit

/-! ### digits -/
theorem digI_lt {q : Nat} (hq : 0 < q) (t i : Nat) : 0 ≤ digI q t i ∧ digI q t i < q := by
  unfold digI
  have := Nat.mod_lt (t / q ^ i) hq
  omega
/-- A number that ends in q - 1, i times. -/
theorem dig_split {q t i : Nat} (hq : 0 < q) (h : t % q ^ i = q ^ i - 1) : t + 1 = (t / q ^ i + 1) * q ^ i := by
  have h1 := Nat.div_add_mod t (q ^ i)
  have h2 : 0 < q ^ i := Nat.pow_pos hq
  rw [h] at h1
  rw [Nat.add_mul, Nat.one_mul, Nat.mul_comm]
  omega
theorem dig_low {q t i j : Nat} (hq : 0 < q) (h : t % q ^ i = q ^ i - 1) (hj : j < i) : digI q (t + 1) j = 0 := by
  unfold digI
  rw [dig_split hq h]
  obtain ⟨k, rfl⟩ : ∃ k, i = j + (k + 1) := ⟨i - j - 1, by omega⟩
  rw [Nat.pow_add, Nat.mul_comm (q ^ j), ← Nat.mul_assoc, Nat.mul_div_cancel _ (Nat.pow_pos hq), Nat.pow_succ, ← Nat.mul_assoc, Nat.mul_mod_left]
  rfl
theorem dig_at {q t i : Nat} (hq : 0 < q) (h : t % q ^ i = q ^ i - 1) (hd : digI q t i ≠ (q : Int) - 1) : digI q (t + 1) i = digI q t i + 1 := by
  unfold digI at *
  rw [dig_split hq h, Nat.mul_div_cancel _ (Nat.pow_pos hq)]
  have h1 := Nat.mod_lt (t / q ^ i) hq
  have h2 : t / q ^ i % q + 1 < q := by omega
  rw [Nat.add_mod, Nat.mod_eq_of_lt (show 1 < q by omega), Nat.mod_eq_of_lt h2]
  omega
theorem dig_high {q t i j : Nat} (hq : 0 < q) (h : t % q ^ i = q ^ i - 1) (hd : digI q t i ≠ (q : Int) - 1) (hj : i < j) : digI q (t + 1) j = digI q t j := by
  unfold digI at *
  rw [dig_split hq h]
  obtain ⟨k, rfl⟩ : ∃ k, j = i + (k + 1) := ⟨j - i - 1, by omega⟩
  rw [Nat.pow_add, Nat.mul_comm, Nat.mul_div_mul_left _ _ (Nat.pow_pos hq), ← Nat.div_div_eq_div_mul]
  congr 2
  rw [Nat.pow_succ, Nat.mul_comm, ← Nat.div_div_eq_div_mul, ← Nat.div_div_eq_div_mul]
  congr 1
  have h1 := Nat.mod_lt (t / q ^ i) hq
  generalize t / q ^ i = a at *
  have h2 := Nat.div_add_mod a q
  have h3 : a + 1 = a % q + 1 + q * (a / q) := by omega
  rw [h3, Nat.add_mul_div_left _ _ hq, Nat.div_eq_of_lt (by omega), Nat.zero_add]
theorem dig_next {q t i : Nat} (hq : 0 < q) (h : t % q ^ i = q ^ i - 1) (hd : digI q t i = (q : Int) - 1) : t % q ^ (i + 1) = q ^ (i + 1) - 1 := by
  unfold digI at hd
  have h0 : 0 < q ^ i := Nat.pow_pos hq
  have h1 : t % q ^ (i + 1) = t % q ^ i + q ^ i * (t / q ^ i % q) := by rw [Nat.pow_succ, Nat.mod_mul]
  rw [h1, h, show t / q ^ i % q = q - 1 by omega, Nat.pow_succ, Nat.mul_sub, Nat.mul_one]
  have : q ^ i ≤ q ^ i * q := Nat.le_mul_of_pos_right _ hq
  omega
theorem dig_zero (q j : Nat) : digI q 0 j = 0 := by simp [digI]

/-- The vector of the digits of t. -/
def vecD (q t n : Nat) : List Int := (List.range n).map fun j => digI q t j
theorem vecD_getD {q t n j : Nat} (hj : j < n) : (vecD q t n).getD j 0 = digI q t j := by simp [vecD, List.getD, hj]
/-- The same with the first i digits 0. -/
def vecZ (q t n i : Nat) : List Int := (List.range n).map fun j => if j < i then 0 else digI q t j
theorem vecZ_length (q t n i : Nat) : (vecZ q t n i).length = n := by simp [vecZ]
theorem vecZ_getD {q t n i j : Nat} (hj : j < n) : (vecZ q t n i).getD j 0 = if j < i then 0 else digI q t j := by simp [vecZ, List.getD, hj]
theorem vecZ_zero (q t n : Nat) : vecZ q t n 0 = vecD q t n := by simp [vecZ, vecD]
theorem listI_extg {a b : List Int} (hl : a.length = b.length) (h : ∀ i, i < a.length → a.getD i 0 = b.getD i 0) : a = b := by
  refine List.ext_getElem hl fun i h1 h2 => ?_
  have := h i h1
  simpa [List.getD, List.getElem?_eq_getElem h1, List.getElem?_eq_getElem h2] using this
theorem getD_setI (xs : List Int) (i : Nat) (v : Int) (j : Nat) (hj : j < xs.length) : (xs.set i v).getD j 0 = if j = i then v else xs.getD j 0 := by
  by_cases e : j = i
  · subst e
    rw [if_pos rfl, List.getD_eq_getElem?_getD, List.getElem?_set_self hj]; rfl
  · rw [if_neg e, List.getD_eq_getElem?_getD, List.getElem?_set_ne (fun h => e h.symm), ← List.getD_eq_getElem?_getD]
theorem vecZ_set {q t n i : Nat} (hi : i < n) : (vecZ q t n i).set i 0 = vecZ q t n (i + 1) := by
  refine listI_extg (by simp [vecZ]) fun j hj => ?_
  rw [List.length_set, vecZ_length] at hj
  rw [getD_setI _ _ _ _ (by rw [vecZ_length]; exact hj), vecZ_getD hj, vecZ_getD hj]
  grind
theorem vecZ_next {q t n i : Nat} (hq : 0 < q) (hi : i < n) (h : t % q ^ i = q ^ i - 1) (hd : digI q t i ≠ (q : Int) - 1) : (vecZ q t n i).set i (digI q t i + 1) = vecD q (t + 1) n := by
  refine listI_extg (by simp [vecZ, vecD]) fun j hj => ?_
  rw [List.length_set, vecZ_length] at hj
  rw [getD_setI _ _ _ _ (by rw [vecZ_length]; exact hj), vecZ_getD hj, vecD_getD hj]
  by_cases h1 : j = i
  · subst h1; rw [if_pos rfl, dig_at hq h hd]
  · rw [if_neg h1]
    by_cases h2 : j < i
    · rw [if_pos h2, dig_low hq h h2]
    · rw [if_neg h2, dig_high hq h hd (by omega)]
theorem dotI_le {r : List Int} {v : Nat → Int} (hr : ∀ x ∈ r, x ≤ 100 ∧ -100 ≤ x) (hv : ∀ i, 0 ≤ v i ∧ v i ≤ 13) : ∀ k, k ≤ r.length → (CR.sumN k fun i => r.getD i 0 * v i).natAbs ≤ k * 1300
  | 0, _ => by simp [CR.sumN_zero]
  | k + 1, hk => by
    rw [CR.sumN_succ]
    have h1 := dotI_le hr hv k (by omega)
    have h2 := hr _ (getD_memI (show k < r.length by omega))
    have h3 := hv k
    have h4 := Int.natAbs_mul (r.getD k 0) (v k)
    have h5 : (r.getD k 0).natAbs * (v k).natAbs ≤ 100 * 13 := Nat.mul_le_mul (by omega) (by omega)
    have h6 := Int.natAbs_add_le (CR.sumN k fun i => r.getD i 0 * v i) (r.getD k 0 * v k)
    have h7 : (CR.sumN k (fun i => r.getD i 0 * v i) + r.getD k 0 * v k).natAbs ≤ k * 1300 + 1300 := by
      rw [h4] at h6
      exact Nat.le_trans h6 (by omega)
    rw [Nat.add_one_mul]
    exact h7

set_option maxRecDepth 100000 in
set_option maxHeartbeats 4000000 in
theorem zcl_any (R : Option Addr) (n c : Nat) (r : List Int) (bv bq g q t : Nat) (w : World) (hr : IL w R n r) (hrx : ∀ x ∈ r, x ≤ 100 ∧ -100 ≤ x) (hn : n ≤ 6) (hq : 0 < q) (hq13 : q ≤ 13)
    (hbv : Blk w bv 28 #[.slice (some ⟨g, 0, none⟩) n n]) (hbq : Blk w bq 3 #[.int .i64 q]) (hv : OwnI w g (some ⟨g, 0, none⟩) n n (vecD q t n)) :
    Calls Tryd.prog 42 #[.slice R n c, .pointer (some ⟨bv, 0, none⟩), .pointer (some ⟨bq, 0, none⟩)] w fun e w' => e = .returned (.bool (!(dotI r (digI q t) % (q : Int) == 0))) ∧ w = w' := by
  have hl := hr.len
  have HLE : Hid (∀ k, k ≤ n → (CR.sumN k fun i => r.getD i 0 * digI q t i).natAbs ≤ k * 1300) := hide (fun k hk => dotI_le hrx (fun i => by have := digI_lt hq t i; omega) k (by omega))
  have hcv := hbv.cell 0
  have hcq := hbq.cell 0
  simp at hcv hcq
  have HR := hide hr
  have HV := hide hv
  have HD : Hid (dotI r (digI q t) = CR.sumN n fun i => r.getD i 0 * digI q t i) := hide (by unfold dotI; rw [hl])
  have HX : Hid (∀ k, k < n → (r.getD k 0).natAbs ≤ 100) := hide (fun k hk => by have := hrx _ (getD_memI (show k < r.length by omega)); omega)
  have HDG : Hid (∀ i, 0 ≤ digI q t i ∧ digI q t i < q) := hide (fun i => digI_lt hq t i)
  clear hr hrx hbv hbq hv hl
  go_enter Tryd.func42, Tryd.ntmps42
  go_wp2_with fail
  go_loop [5, 10] (fun sv iv => ∃ k : Nat, k ≤ n ∧ iv = .int .i64 k ∧ sv = .int .i64 (CR.sumN k fun i => r.getD i 0 * digI q t i)) (fun _ iv => n - (intOf iv).toNat)
  case atStart => exact ⟨0, Nat.zero_le _, rfl, rfl⟩
  case round =>
    obtain ⟨k, hk, rfl, rfl⟩ := hrel
    have hle := HLE.out k hk
    by_cases hlt : k < n
    · obtain ⟨ad, rfl, hcl⟩ := HR.out.at_ hlt
      have hvc := HV.out.cell hlt
      rw [vecD_getD hlt] at hvc
      have hx := HX.out k hlt
      have hd := HDG.out k
      have hle2 := HLE.out (k + 1) hlt
      have hle3 : (CR.sumN k (fun i => r.getD i 0 * digI q t i) + r.getD k 0 * digI q t k).natAbs ≤ (k + 1) * 1300 := hle2
      have HS : Hid (CR.sumN (k + 1) (fun i => r.getD i 0 * digI q t i) = CR.sumN k (fun i => r.getD i 0 * digI q t i) + r.getD k 0 * digI q t k) := rfl
      clear hle2
      generalize CR.sumN k (fun i => r.getD i 0 * digI q t i) = s at *
      generalize r.getD k 0 = x at *
      generalize digI q t k = d at *
      have hxd := abs_mul_le hx (show d.natAbs ≤ 13 by omega)
      obtain ⟨p, hp⟩ : ∃ p, x * d = p := ⟨_, rfl⟩
      rw [hp] at hxd hle3
      have hwp : IntKind.i64.wrap (x * d) = x * d := by rw [hp, IntKind.wrap_i64]; omega
      have hws : IntKind.i64.wrap (s + x * d) = s + x * d := by rw [hp, IntKind.wrap_i64]; omega
      clear hp hxd hle3 hx hle
      go_wp2_with fail
      go_round
      case rel => exact ⟨k + 1, by omega, by go_num, by rw [HS.out]⟩
      case measure => simp [intOf]; omega
    · have hkn : k = n := by omega
      have HE : Hid ((CR.sumN k fun i => r.getD i 0 * digI q t i) = dotI r (digI q t)) := hide (by rw [hkn, HD.out])
      rw [HE.out] at hle ⊢
      have hq0 : (q : Int) ≠ 0 := by omega
      have HB : Hid ((dotI r (digI q t)).tmod (q : Int) = 0 ↔ dotI r (digI q t) % (q : Int) = 0) := hide (by
        rw [← Int.dvd_iff_tmod_eq_zero, ← Int.dvd_iff_emod_eq_zero])
      clear HE
      obtain ⟨s, hs⟩ : ∃ s, dotI r (digI q t) = s := ⟨_, rfl⟩
      have HS := hide hs
      rw [hs] at hle HB ⊢
      clear hs
      by_cases hz : s.tmod (q : Int) = 0
      · have HZ : Hid ((s % (q : Int) == 0) = true) := hide (by simpa using HB.out.1 hz)
        go_wp2_with fail
        go_ret
        rw [HS.out, HZ.out]
        exact ⟨by simp, rfl⟩
      · have HZ : Hid ((s % (q : Int) == 0) = false) := hide (by simp; exact fun h => hz (HB.out.2 (h)))
        have hb0 : (s.tmod (q : Int) != 0) = true := by simpa using hz
        have hm1 := Int.tmod_lt_of_pos s (show (0 : Int) < q by omega)
        have hm2 := Int.lt_tmod_of_pos s (show (0 : Int) < q by omega)
        clear hz
        go_wp2_with fail
        go_ret
        rw [HS.out, HZ.out]
        exact ⟨by simp, rfl⟩

theorem any_no {xss : List (List Int)} {f : List Int → Bool} (h : ∀ j, j < xss.length → f (xss.getD j []) = false) : xss.any f = false := by
  rw [List.any_eq_false]
  intro x hx
  obtain ⟨j, hj, rfl⟩ := List.mem_iff_getElem.1 hx
  have := h j hj
  rw [show xss.getD j [] = xss[j] by simp [List.getD, List.getElem?_eq_getElem hj]] at this
  simp [this]
theorem any_yes {xss : List (List Int)} {f : List Int → Bool} {j : Nat} (hj : j < xss.length) (h : f (xss.getD j []) = true) : xss.any f = true := by
  rw [List.any_eq_true]
  exact ⟨xss[j], List.getElem_mem _, by rw [← h, show xss.getD j [] = xss[j] by simp [List.getD, List.getElem?_eq_getElem hj]]⟩

set_option maxRecDepth 100000 in
set_option maxHeartbeats 2000000 in
theorem rowIndex_any {fid : FuncId} {caps : List Value} (f : List Int → Bool) (hfid : ∀ args w, (callFunc fid args).run Tryd.prog w = .ok (.enter fid args) w) (A : Option Addr) (n c : Nat) (xss : List (List Int)) (w : World) (ha : ILL w A n xss)
    (hf : ∀ B m d k, k < n → IL w B m (xss.getD k []) → Calls Tryd.prog fid (.slice B m d :: caps).toArray w fun e w' => e = .returned (.bool (f (xss.getD k []))) ∧ w = w') :
    Calls Tryd.prog 50 #[.slice A n c, .func (.func fid) #[] caps.toArray] w fun e w' => (∃ z : Int, e = .returned (.int .i64 z) ∧ decide (0 ≤ z) = xss.any f) ∧ w = w' := by
  have hs := ha.small
  have HA := hide ha
  have HF := hide hf
  have HL := hide ha.len
  clear ha hf
  go_enter Tryd.func50, Tryd.ntmps50
  go_wp2
  go_loop [8] (fun i => ∃ k : Nat, k ≤ n ∧ i = .int .i64 k ∧ Hid (∀ j, j < k → f (xss.getD j []) = false)) (fun i => n - (intOf i).toNat)
  case atStart => exact ⟨0, Nat.zero_le _, rfl, hide (fun j hj => absurd hj (by omega))⟩
  case round =>
    obtain ⟨k, hk, rfl, HN⟩ := hrel
    by_cases hlt : k < n
    · obtain ⟨ad, B, m, d, rfl, hc, hil⟩ := HA.out.at_ hlt
      have HC := hide (HF.out B m d k hlt hil)
      clear hil
      by_cases hfk : f (xss.getD k []) = true
      · have HY : Hid (xss.any f = true) := hide (any_yes (by rw [HL.out]; exact hlt) hfk)
        rw [hfk] at HC
        clear hfk
        go_wp2_with fail
        refine HC.out.mono ?_
        rintro e w1 ⟨rfl, rfl⟩
        go_wp2_with fail
        go_ret
        exact ⟨⟨k, rfl, by rw [HY.out]; exact decide_eq_true (by omega)⟩, rfl⟩
      · have hfk' : f (xss.getD k []) = false := by simpa using hfk
        have HN2 : Hid (∀ j, j < k + 1 → f (xss.getD j []) = false) := hide (fun j hj => by
          by_cases e : j = k
          · rw [e]; exact hfk'
          · exact HN.out j (by omega))
        rw [hfk'] at HC
        clear hfk hfk'
        go_wp2_with fail
        refine HC.out.mono ?_
        rintro e w1 ⟨rfl, rfl⟩
        go_wp2_with fail
        go_round
        case rel => exact ⟨k + 1, by omega, by go_num, HN2⟩
        case measure => simp [intOf]; omega
    · have HY : Hid (xss.any f = false) := hide (any_no fun j hj => HN.out j (by rw [HL.out] at hj; omega))
      go_wp2_with fail
      go_ret
      exact ⟨⟨-1, rfl, by rw [HY.out]; rfl⟩, rfl⟩
theorem eRowIx : ∀ args w, (callFunc 50 args).run Tryd.prog w = .ok (.enter 50 args) w := enters (fn := Tryd.f50) (by kernel_rfl) (by kernel_rfl) (by kernel_rfl)
theorem eRowCt : ∀ args w, (callFunc 41 args).run Tryd.prog w = .ok (.enter 41 args) w := enters (fn := Tryd.f41) (by kernel_rfl) (by kernel_rfl) (by kernel_rfl)
theorem eZcl : ∀ args w, (callFunc 42 args).run Tryd.prog w = .ok (.enter 42 args) w := enters (fn := Tryd.f42) (by kernel_rfl) (by kernel_rfl) (by kernel_rfl)

set_option maxRecDepth 100000 in
set_option maxHeartbeats 2000000 in
theorem rowContains_any {fid : FuncId} {caps : List Value} (f : List Int → Bool) (hfid : ∀ args w, (callFunc fid args).run Tryd.prog w = .ok (.enter fid args) w) (A : Option Addr) (n c : Nat) (xss : List (List Int)) (w : World) (ha : ILL w A n xss)
    (hf : ∀ B m d k, k < n → IL w B m (xss.getD k []) → Calls Tryd.prog fid (.slice B m d :: caps).toArray w fun e w' => e = .returned (.bool (f (xss.getD k []))) ∧ w = w') :
    Calls Tryd.prog 41 #[.slice A n c, .func (.func fid) #[] caps.toArray] w fun e w' => e = .returned (.bool (xss.any f)) ∧ w = w' := by
  have HI := hide (rowIndex_any (caps := caps) f hfid A n c xss w ha hf)
  have e1 := eRowIx
  clear ha hf
  go_enter Tryd.func41, Tryd.ntmps41
  go_wp2_with fail
  refine HI.out.mono ?_
  rintro e w1 ⟨⟨z, rfl, hz⟩, rfl⟩
  have HZ := hide hz
  obtain ⟨b, hb⟩ : ∃ b, xss.any f = b := ⟨_, rfl⟩
  have HB := hide hb
  rw [hb] at HZ
  clear HI hz hb
  cases b
  · have hz : decide ((0 : Int) ≤ z) = false := HZ.out
    go_wp2_with fail
    go_ret
    rw [HB.out]
    exact ⟨rfl, rfl⟩
  · have hz : decide ((0 : Int) ≤ z) = true := HZ.out
    go_wp2_with fail
    go_ret
    rw [HB.out]
    exact ⟨rfl, rfl⟩

/-- timbref1.Zeros. -/
theorem dig_top {q t i m : Nat} (hq : 0 < q) (h : t % q ^ i = q ^ i - 1) (hi : i < m) (hd : digI q t i ≠ (q : Int) - 1) (ht : t < q ^ m) : t + 1 < q ^ m := by
  by_cases e : t + 1 = q ^ m
  · exfalso
    have h1 := dig_split hq h
    obtain ⟨k, rfl⟩ : ∃ k, m = i + (k + 1) := ⟨m - i - 1, by omega⟩
    rw [e, Nat.pow_add, Nat.mul_comm] at h1
    have h2 := Nat.eq_of_mul_eq_mul_right (Nat.pow_pos hq) h1
    apply hd
    unfold digI
    have h3 : (t / q ^ i + 1) % q = 0 := by rw [← h2, Nat.pow_succ, Nat.mul_mod_left]
    have h4 := Nat.mod_lt (t / q ^ i) hq
    have h5 := Nat.div_add_mod (t / q ^ i) q
    by_cases e2 : t / q ^ i % q = q - 1
    · omega
    · exfalso
      have h6 : (t / q ^ i + 1) % q = t / q ^ i % q + 1 := by
        rw [Nat.add_mod, Nat.mod_eq_of_lt (show 1 < q by omega), Nat.mod_eq_of_lt (by omega)]
      omega
  · omega
theorem vecD_start (q n : Nat) : vecD q 0 n = List.replicate n 0 := by
  refine List.ext_getElem (by simp [vecD]) fun i h1 h2 => ?_
  simp [vecD, dig_zero]

set_option maxRecDepth 100000 in
set_option maxHeartbeats 4000000 in
theorem zeros_any (A : Option Addr) (n c m q : Nat) (xss : List (List Int)) (w : World) (ha : SLL w A n c xss) (h0 : mfault xss = 0) (hn : 0 < n) (hm : colsM xss = m) (hq : 0 < q) (hq13 : q ≤ 13) :
    Calls Tryd.prog 20 #[.slice A n c, .int .i64 m, .int .i64 q] w fun e w' => e = .returned (.int .i64 (solN xss m q : Nat)) ∧ Below w.heap.size w w' := by
  obtain ⟨hx1, hx2, hx3, hx4⟩ := mat_rows h0
  obtain ⟨i0, hi0, hz0, hz1, hz2⟩ := info_parts int_info
  have HSM : Hid (∀ r ∈ xss, ∀ x ∈ r, x ≤ 100 ∧ -100 ≤ x) := hide (fun r hr x hx => by have := ((mfault_zero h0).2.2 r hr).2 x hx; omega)
  have hlen := ha.len
  rw [hm] at hx2 hx3
  have HA := hide ha
  have HROW := hide hx3
  have HLEN := hide hlen
  have hmm : (m : Int) ≤ 6 := by omega
  have hmf : ∀ (fn : Fn) (first cap : Array Value) (w : World), (Instr.makeFunc fn first cap).run Tryd.prog w = .ok (.func fn first cap) w := fun _ _ _ _ => rfl
  clear ha h0 hm hx1 hx3 hx4 hlen
  have HW1 : Hid (Below w.heap.size w (w.alloc (.cells #[.int .i64 q] 3))) := hide ((Below.refl _ _).alloc (Nat.le_refl _) _)
  have HBQ : Hid (Blk (w.alloc (.cells #[.int .i64 q] 3)) w.heap.size 3 #[.int .i64 q]) := hide (Blk.new _ _ _)
  go_enter Tryd.func20, Tryd.ntmps20
  go_wp2_with (at_make; refine wpList_make_full _ rfl _ _ 28 rfl (w.heap.size + 1) 3 i0 (.int .i64 0) 1 Tryd.underlying28 hi0 hz0 hz1 .i64 .i64 _ _ m rfl rfl rfl rfl (by rw [hz2]; omega) (by unfold maxLen; omega) (by simp) ?_; intro w2 hown2 hg2)
  have hB2 : Below w.heap.size w w2 := HW1.out.trans ((Below.refl _ _).grown hg2 HW1.out.size (by intro k hk; cases hk))
  have hown3 := OwnI.zero (z := #[]) hown2 (by omega)
  have hown4 : OwnI (w2.alloc (.cells #[.slice (some ⟨w.heap.size + 1, 0, none⟩) m m] 28)) (w.heap.size + 1) (some ⟨w.heap.size + 1, 0, none⟩) m m (vecD q 0 m) := by
    rw [vecD_start]
    refine (KeepT.alloc w2 _).ownI ?_
    simpa using hown3
  have hbv : Blk (w2.alloc (.cells #[.slice (some ⟨w.heap.size + 1, 0, none⟩) m m] 28)) w2.heap.size 28 #[.slice (some ⟨w.heap.size + 1, 0, none⟩) m m] := Blk.new _ _ _
  have hbq : Blk (w2.alloc (.cells #[.slice (some ⟨w.heap.size + 1, 0, none⟩) m m] 28)) w.heap.size 3 #[.int .i64 q] := (HBQ.out.grown hg2 (by simp)).alloc _
  have hb3 : Below w.heap.size w (w2.alloc (.cells #[.slice (some ⟨w.heap.size + 1, 0, none⟩) m m] 28)) := hB2.alloc hB2.size _
  have hsz : w.heap.size + 2 ≤ w2.heap.size := by
    have h := (hown3.lt (w.heap.size + 1) (by simp [Value.ownBlock])).2
    omega
  obtain ⟨bv, hbve⟩ : ∃ bv, w2.heap.size = bv := ⟨_, rfl⟩
  obtain ⟨w3, hw3⟩ : ∃ w3, w2.alloc (.cells #[.slice (some ⟨w.heap.size + 1, 0, none⟩) m m] 28) = w3 := ⟨_, rfl⟩
  rw [hw3] at hown4 hbv hbq hb3 ⊢
  rw [hbve] at hbv hsz ⊢
  have HO4 := hide hown4
  have HBV := hide hbv
  have HBQ3 := hide hbq
  have HB3 := hide hb3
  have hqm : q ^ m ≤ 4826809 := Nat.le_trans (Nat.pow_le_pow_left hq13 m) (Nat.le_trans (Nat.pow_le_pow_right (by omega) hx2) (by decide))
  have hqm0 : 0 < q ^ m := Nat.pow_pos hq
  clear HW1 HBQ hown2 hg2 hB2 hown3 hown4 hbv hbq hb3 hbve hw3 hz0 hz1 hz2 hi0
  obtain ⟨M, hM⟩ : ∃ M, q ^ m = M := ⟨_, rfl⟩
  rw [hM] at hqm hqm0
  have HM := hide hM
  clear hM
  go_loopg [7] M (fun gh mv wr => ∃ t : Nat, t < M ∧ Hid (gh = M - t) ∧ mv = .int .i64 (((List.range t).countP fun t => solB xss q t : Nat) : Int) ∧ OwnI wr (w.heap.size + 1) (some ⟨w.heap.size + 1, 0, none⟩) m m (vecD q t m) ∧ Blk wr bv 28 #[.slice (some ⟨w.heap.size + 1, 0, none⟩) m m] ∧ Blk wr w.heap.size 3 #[.int .i64 q] ∧ Below w.heap.size w wr)
  case atStart => exact ⟨0, hqm0, hide (by omega), rfl, HO4.out, HBV.out, HBQ3.out, HB3.out⟩
  case round =>
    obtain ⟨t, ht, HGH, rfl, ho, hbv, hbq, hb⟩ := hrel
    have HO := hide ho
    have HBVr := hide hbv
    have HBQr := hide hbq
    have HBr := hide hb
    clear ho hbv hbq hb HO4 HBV HBQ3 HB3
    have HAN : Hid (xss.any (fun r => !(dotI r (digI q t) % (q : Int) == 0)) = !solB xss q t) := hide (by unfold solB; rw [List.not_all_eq_any_not])
    have HCON := hide (rowContains_any (caps := [.pointer (some ⟨bv, 0, none⟩), .pointer (some ⟨w.heap.size, 0, none⟩)]) (fun r => !(dotI r (digI q t) % (q : Int) == 0)) eZcl A n c xss wr (HA.out.below HBr.out).ill (fun B m' d k hk hil => by
      have hkx : k < xss.length := by rw [HLEN.out]; exact hk
      have hl : m' = m := by rw [← hil.len]; exact HROW.out k hkx
      subst hl
      exact zcl_any B m' d (xss.getD k []) bv w.heap.size (w.heap.size + 1) q t wr hil (HSM.out _ (by rw [show xss.getD k [] = xss[k] by simp [List.getD, List.getElem?_eq_getElem hkx]]; exact List.getElem_mem _)) hx2 hq hq13 HBVr.out HBQr.out HO.out))
    have HCS : Hid ((((List.range (t + 1)).countP fun t => solB xss q t : Nat) : Int) = (((List.range t).countP fun t => solB xss q t : Nat) : Int) + (if solB xss q t then 1 else 0)) := hide (by
      rw [List.range_succ, List.countP_append, List.countP_singleton]
      split <;> simp_all)
    have hcle : (List.range t).countP (fun t => solB xss q t) ≤ t := by
      have h := List.countP_le_length (p := fun t => solB xss q t) (l := List.range t)
      rwa [List.length_range] at h
    rw [HAN.out] at HCON
    obtain ⟨b, hb⟩ : ∃ b, solB xss q t = b := ⟨_, rfl⟩
    rw [hb] at HCON HCS
    obtain ⟨C, hC⟩ : ∃ C, (List.range t).countP (fun t => solB xss q t) = C := ⟨_, rfl⟩
    rw [hC] at HCS hcle ⊢
    have ex := eRowCt
    clear HAN hb hC
    go_upto_if 15 with fail
    refine HCON.out.mono ?_
    rintro e w4 ⟨rfl, rfl⟩
    clear HCON
    go_upto_if 15 with fail
    go_cut [7] (fun mv wx => mv = .int .i64 (((List.range (t + 1)).countP fun t => solB xss q t : Nat) : Int) ∧ wr = wx)
    case first =>
      cases b
      · go_wp2_with fail
        go_meet
        exact ⟨by rw [HCS.out]; simp, rfl⟩
      · go_wp2_with fail
        go_meet
        exact ⟨by rw [HCS.out]; simp, rfl⟩
    case rest =>
      obtain ⟨rfl, rfl⟩ := hcut
      clear HCS hcle ex hmf
      rename World => wo
      go_wp2_with fail
      go_loopw [9] (fun iv wi => ∃ i : Nat, i ≤ m ∧ iv = .int .i64 i ∧ Hid (t % q ^ i = q ^ i - 1) ∧ OwnI wi (w.heap.size + 1) (some ⟨w.heap.size + 1, 0, none⟩) m m (vecZ q t m i) ∧ Blk wi bv 28 #[.slice (some ⟨w.heap.size + 1, 0, none⟩) m m] ∧ Blk wi w.heap.size 3 #[.int .i64 q] ∧ Below w.heap.size w wi) (fun iv _ => m - (intOf iv).toNat)
      case atStart => exact ⟨0, Nat.zero_le _, rfl, hide (by simp [Nat.mod_one]), by rw [vecZ_zero]; exact HO.out, HBVr.out, HBQr.out, HBr.out⟩
      case round =>
        clear HO HBVr HBQr HBr
        obtain ⟨i, hi, rfl, HT, ho, hbv, hbq, hb⟩ := hrel
        have hcv := hbv.cell 0
        have hcq := hbq.cell 0
        simp at hcv hcq
        by_cases hlt : i < m
        · have hg : decide ((i : Int) < (m : Int)) = true := decide_eq_true (by omega)
          have hcell := ho.cell hlt
          rw [vecZ_getD hlt, if_neg (Nat.lt_irrefl _)] at hcell
          have hd0 := digI_lt hq t i
          obtain ⟨d, hd⟩ : ∃ d, digI q t i = d := ⟨_, rfl⟩
          rw [hd] at hcell hd0
          by_cases he : d = (q : Int) - 1
          · have hbe : (d == (q : Int) - 1) = true := by simpa using he
            have HT2 := hide (dig_next hq HT.out (by rw [hd]; exact he))
            have HO := hide ho
            have HV := hide hbv
            have HQ := hide hbq
            have HB := hide hb
            clear ho hbv hbq hb he hd
            go_upto_region 6 with fail
            go_quiet (fail)
            have HO2 := hide (HO.out.drewN nq)
            have HV2 := hide (HV.out.drewN nq)
            have HQ2 := hide (HQ.out.drewN nq)
            have HB2 := hide (below_drewN HB.out nq)
            clear HO HV HQ HB hcv hcq hcell
            obtain ⟨wq, hwq⟩ : ∃ wq, wr.drewN nq = wq := ⟨_, rfl⟩
            rw [hwq] at HO2 HV2 HQ2 HB2 ⊢
            clear hwq
            have hcv := HV2.out.cell 0
            simp at hcv
            have hfr := HO2.out.frozen i
            have hcell := HO2.out.cell hlt
            have HN := HO2.out.set_ i 0
            rw [vecZ_set hlt] at HN
            have HN := hide HN
            have HVn := hide (HV2.out.far (p := ⟨w.heap.size + 1, i, none⟩) (show bv ≠ w.heap.size + 1 by omega) (.int .i64 0))
            have HQn := hide (HQ2.out.far (p := ⟨w.heap.size + 1, i, none⟩) (show w.heap.size ≠ w.heap.size + 1 by omega) (.int .i64 0))
            have HBn := hide (HB2.out.setCell (p := ⟨w.heap.size + 1, i, none⟩) (show w.heap.size ≤ w.heap.size + 1 by omega) (.int .i64 0))
            generalize (vecZ q t m i).getD i 0 = z at *
            clear HO2 HV2 HQ2 HB2
            go_wp2_with fail
            go_roundw
            case rel => exact ⟨i + 1, by omega, by go_num, HT2, HN.out, HVn.out, HQn.out, HBn.out⟩
            case measure => simp [intOf]; omega
          · have hbe : (d == (q : Int) - 1) = false := by simpa using he
            have HTM := hide (dig_top hq HT.out hlt (by rw [hd]; exact he) (by rw [HM.out]; exact ht))
            have HZD : Hid ((vecZ q t m i).getD i 0 = d) := hide (by rw [vecZ_getD hlt, if_neg (Nat.lt_irrefl _), hd])
            have HVN := hide (vecZ_next hq hlt HT.out (by rw [hd]; exact he))
            rw [HM.out] at HTM
            rw [hd] at HVN
            have htm := HTM.out
            have hbim : ((i : Int) == (m : Int)) = false := by simp; omega
            have HO := hide ho
            have HV := hide hbv
            have HQ := hide hbq
            have HB := hide hb
            have HCE := hide hcell
            clear ho hbv hbq hb he hd HTM
            go_upto_region 6 with fail
            go_quiet (fail)
            have HO2 := hide (HO.out.drewN nq)
            have HV2 := hide (HV.out.drewN nq)
            have HQ2 := hide (HQ.out.drewN nq)
            have HB2 := hide (below_drewN HB.out nq)
            clear HO HV HQ HB hcv hcq hcell
            obtain ⟨wq, hwq⟩ : ∃ wq, wr.drewN nq = wq := ⟨_, rfl⟩
            rw [hwq] at HO2 HV2 HQ2 HB2 ⊢
            clear hwq
            have hcv := HV2.out.cell 0
            simp at hcv
            have hfr := HO2.out.frozen i
            have hcell : wq.cell? ⟨w.heap.size + 1, i, none⟩ = some (.int .i64 d) := by rw [HO2.out.cell hlt, HZD.out]
            have HN := HO2.out.set_ i (d + 1)
            rw [HVN.out] at HN
            have HN := hide HN
            have HVn := hide (HV2.out.far (p := ⟨w.heap.size + 1, i, none⟩) (show bv ≠ w.heap.size + 1 by omega) (.int .i64 (d + 1)))
            have HQn := hide (HQ2.out.far (p := ⟨w.heap.size + 1, i, none⟩) (show w.heap.size ≠ w.heap.size + 1 by omega) (.int .i64 (d + 1)))
            have HBn := hide (HB2.out.setCell (p := ⟨w.heap.size + 1, i, none⟩) (show w.heap.size ≤ w.heap.size + 1 by omega) (.int .i64 (d + 1)))
            clear HO2 HV2 HQ2 HB2 HVN HCE HZD
            go_wp2_with fail
            go_roundg (M - (t + 1))
            case rel => exact ⟨t + 1, htm, rfl, rfl, HN.out, HVn.out, HQn.out, HBn.out⟩
            case measure => have := HGH.out; omega
        · have him : i = m := by omega
          subst him
          have hg : decide ((i : Int) < (i : Int)) = false := by simp
          have HEND : Hid ((List.range (t + 1)).countP (fun t => solB xss q t) = solN xss i q) := hide (by
            have h1 := HT.out
            have h2 := Nat.mod_eq_of_lt (show t < q ^ i by rw [HM.out]; exact ht)
            have h3 : 0 < q ^ i := Nat.pow_pos hq
            have h4 : t + 1 = q ^ i := by omega
            rw [h4]; rfl)
          have HB := hide hb
          clear ho hbv hbq hb
          go_upto_region 6 with fail
          go_quiet (fail)
          have HB2 := hide (below_drewN HB.out nq)
          go_wp2_with fail
          go_ret
          rw [HEND.out]
          exact ⟨rfl, HB2.out⟩
end Go.Proofs.YtgjblcfcbohjdaaDoor
