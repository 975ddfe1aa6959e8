/- gcd, lcm, Order, Sign. -/
import Derived.Test.YtpemnhalilefmaaCycles
import Derived.Test.YtpemnhalilefmaaMath7
namespace Go.Proofs.Ytpemnhalilefmaa
open Go.RowKit

set_option maxHeartbeats 1000000 in
theorem gcd_any (x y : Nat) (w : World) (hx : x ≤ 1000000000000) (hy : y ≤ 1000000000000) :
    Calls Try.prog 53 #[.int .i64 x, .int .i64 y] w fun e w' => e = .returned (.int .i64 (Nat.gcd x y : Nat)) ∧ Below w.heap.size w w' := by
  go_enter Try.func53, Try.ntmps53
  go_wp2
  go_loopw [0, 1] (fun av bv wr => ∃ a b : Nat, av = .int .i64 a ∧ bv = .int .i64 b ∧ a ≤ 1000000000000 ∧ b ≤ 1000000000000 ∧ Hid (Nat.gcd a b = Nat.gcd x y) ∧ Below w.heap.size w wr) (fun _ bv _ => (intOf bv).toNat)
  case atStart => exact ⟨x, y, rfl, rfl, hx, hy, rfl, Below.refl _ _⟩
  case round =>
    obtain ⟨a, b, rfl, rfl, ha, hb, hg, hnx⟩ := hrel
    by_cases h0 : b = 0
    · subst h0
      have HE : Hid (a = Nat.gcd x y) := by rw [← hg.out, Nat.gcd_zero_right]; exact rfl
      go_wp2
      go_ret
      rw [← HE.out]
      exact ⟨rfl, hnx⟩
    · have hbne : ((b : Int) != 0) = true := by simp; omega
      have hb0 : 0 < b := by omega
      have hm := Nat.mod_lt a hb0
      have HG : Hid (Nat.gcd b (a % b) = Nat.gcd x y) := by
        rw [← hg.out, Nat.gcd_comm a b, Nat.gcd_rec b a, Nat.gcd_comm]; exact rfl
      have he : (a : Int) % (b : Int) = ((a % b : Nat) : Int) := (Int.natCast_emod _ _).symm
      clear h0
      generalize a % b = r at *
      go_wp2
      go_quiet (fail)
      go_wp2
      go_roundw
      case rel => exact ⟨b, r, rfl, by rw [he], hb, by omega, HG, below_drewN hnx _⟩
      case measure => simp [intOf]; omega

set_option maxHeartbeats 1000000 in
theorem lcm_any (x y : Nat) (w : World) (hx : 0 < x) (hx2 : x ≤ 1000000000) (hy : 0 < y) (hy2 : y ≤ 9) :
    Calls Try.prog 43 #[.int .i64 x, .int .i64 y] w fun e w' => e = .returned (.int .i64 (Nat.lcm x y : Nat)) ∧ Below w.heap.size w w' := by
  have HG := hide (gcd_any x y w (by omega) (by omega))
  have hg0 : 0 < Nat.gcd x y := Nat.gcd_pos_of_pos_left y hx
  have hd : (x : Int) / ((Nat.gcd x y : Nat) : Int) = ((x / Nat.gcd x y : Nat) : Int) := (Int.natCast_ediv _ _).symm
  have hle : x / Nat.gcd x y ≤ x := Nat.div_le_self _ _
  have HL : Hid (x / Nat.gcd x y * y = Nat.lcm x y) := by
    have : x / Nat.gcd x y * y = x * y / Nat.gcd x y := by
      rw [Nat.mul_comm, Nat.mul_comm x y]
      exact (Nat.mul_div_assoc y (Nat.gcd_dvd_left x y)).symm
    rw [this]
    exact rfl
  generalize Nat.gcd x y = g at *
  generalize x / g = q at *
  have hm : q * y ≤ 1000000000 * 9 := Nat.mul_le_mul (by omega) hy2
  have hp0 : (0 : Int) ≤ (q : Int) * (y : Int) := by rw [← Int.natCast_mul]; omega
  have hp1 : (q : Int) * (y : Int) ≤ 9000000000 := by rw [← Int.natCast_mul]; omega
  have HM : Hid (((q * y : Nat) : Int) = (q : Int) * (y : Int)) := Int.natCast_mul _ _
  clear hm
  go_enter Try.func43, Try.ntmps43
  go_wp2_with fail
  refine HG.out.mono ?_
  rintro e w1 ⟨rfl, hb1⟩
  go_wp2
  go_ret
  rw [← HL.out, HM.out]
  exact ⟨rfl, hb1⟩

/-- A slice of slices, to be read. -/
structure ILL (w : World) (A : Option Addr) (n : Nat) (xss : List (List Int)) : Prop where
  len : xss.length = n
  small : n ≤ 1000000
  mem : 0 < n → ∃ ad, A = some ad ∧ ad.block < w.heap.size ∧ ∀ j, j < n → ∃ B m d, w.cell? (ad.add j) = some (.slice B m d) ∧ IL w B m (xss.getD j [])
theorem ILL.at_ {w : World} {A : Option Addr} {n k : Nat} {xss : List (List Int)} (h : ILL w A n xss) (hk : k < n) : ∃ ad B m d, A = some ad ∧ w.cell? (ad.add k) = some (.slice B m d) ∧ IL w B m (xss.getD k []) := by
  obtain ⟨ad, e, _, hc⟩ := h.mem (by omega)
  obtain ⟨B, m, d, h1, h2⟩ := hc k hk
  exact ⟨ad, B, m, d, e, h1, h2⟩
theorem ILL.below {w w' : World} {A : Option Addr} {n : Nat} {xss : List (List Int)} (h : ILL w A n xss) (hb : Below w.heap.size w w') : ILL w' A n xss :=
  ⟨h.len, h.small, fun hn => by
    obtain ⟨ad, e, hl, hc⟩ := h.mem hn
    refine ⟨ad, e, Nat.lt_of_lt_of_le hl hb.size, fun j hj => ?_⟩
    obtain ⟨B, m, d, h1, h2⟩ := hc j hj
    exact ⟨B, m, d, (hb.cell (p := ad.add j) (by rw [block_of_add]; exact hl)).trans h1, h2.below hb⟩⟩
theorem ILL.of_rows {w : World} {base n c : Nat} {A : Option Addr} {vs : List Value} {xss : List (List Int)} (h : OwnV w base A n c vs) (hr : RowsI w base vs xss) : ILL w A n xss := by
  have hl := h.len
  refine ⟨by rw [← hr.len]; exact hl, h.small, fun hn => ?_⟩
  obtain ⟨g, rfl, _⟩ := h.cellAt hn
  refine ⟨⟨g, 0, none⟩, rfl, (h.lt g rfl).2, fun j hj => ?_⟩
  obtain ⟨g', e, hc⟩ := h.cellAt hj
  injection e with e
  injection e with e
  subst e
  obtain ⟨B, m, d, h1, h2⟩ := hr.row j (by omega)
  exact ⟨B, m, d, by rw [add_zero_block, hc, h1], h2.il⟩

theorem cycles_il (A : Option Addr) (n c : Nat) (a : List Nat) (w : World) (ha : IL w A n (zs a)) (pa : isP a) (h9 : a.length ≤ 9) :
    Calls Try.prog 21 #[.slice A n c] w fun e w' => ∃ (B : Option Addr) (m d : Nat), e = .returned (.tuple #[.slice B m d, .int .i64 0]) ∧ ILL w' B m ((cycs a).map zs) ∧ Below w.heap.size w w' :=
  (cycles_ok A n c a w ha pa h9).mono fun _ _ ⟨B, m, d, vs, he, ho, hr, hb⟩ => ⟨B, m, d, he, ILL.of_rows ho hr, hb⟩

set_option maxHeartbeats 1000000 in
theorem cycles_err (A : Option Addr) (n c : Nat) (xs : List Int) (w : World) (ha : IL w A n xs) (hf : pf xs ≠ 0) :
    Calls Try.prog 21 #[.slice A n c] w fun e w' => e = .returned (.tuple #[.slice none 0 0, .int .i64 (pf xs)]) ∧ Below w.heap.size w w' := by
  have h2b : (pf xs != 0) = true := by simpa using hf
  clear hf
  go_enter Try.func21, Try.ntmps21
  go_wp2_with fail
  refine (check_any _ _ _ _ _ ha).mono ?_
  rintro e w1 ⟨rfl, hb1⟩
  go_wp2
  go_ret2
  exact ⟨rfl, hb1⟩

theorem ordL_take {xss : List (List Nat)} {k : Nat} (hk : k < xss.length) : ordL (xss.take (k + 1)) = Nat.lcm (ordL (xss.take k)) (xss.getD k []).length := by
  unfold ordL
  rw [List.take_succ_eq_append_getElem hk, List.foldl_append]
  simp [List.getD, List.getElem?_eq_getElem hk]
theorem sgnL_take {xss : List (List Nat)} {k : Nat} (hk : k < xss.length) : sgnL (xss.take (k + 1)) = if (xss.getD k []).length % 2 = 0 then -sgnL (xss.take k) else sgnL (xss.take k) := by
  unfold sgnL
  rw [List.take_succ_eq_append_getElem hk, List.foldl_append]
  simp [List.getD, List.getElem?_eq_getElem hk]
theorem sgnL_one (xss : List (List Nat)) : ∀ k, k ≤ xss.length → sgnL (xss.take k) = 1 ∨ sgnL (xss.take k) = -1
  | 0, _ => .inl rfl
  | k + 1, hk => by
    rw [sgnL_take (by omega)]
    have := sgnL_one xss k (by omega)
    split <;> omega
theorem cycs_row {a : List Nat} (pa : isP a) {k : Nat} (hk : k < (cycs a).length) : 1 ≤ ((cycs a).getD k []).length ∧ ((cycs a).getD k []).length ≤ a.length := by
  have hm : (cycs a).getD k [] ∈ cycs a := by simp [List.getD, List.getElem?_eq_getElem hk]
  unfold cycs cycsTo at hm
  obtain ⟨i, hi, he⟩ := List.mem_map.1 hm
  have hi' := List.mem_range.1 (List.mem_filter.1 hi).1
  unfold cycs cycsTo
  rw [← he, cyc_length]
  have := per_spec pa hi'
  omega
theorem cycs_length (a : List Nat) : (cycs a).length ≤ a.length := by
  unfold cycs cycsTo
  rw [List.length_map]
  exact Nat.le_trans (List.length_filter_le _ _) (by simp)
theorem ordL_bound {a : List Nat} (pa : isP a) (h9 : a.length ≤ 9) : ∀ k, k ≤ (cycs a).length → 0 < ordL ((cycs a).take k) ∧ ordL ((cycs a).take k) ≤ 9 ^ k
  | 0, _ => ⟨Nat.one_pos, Nat.le_refl _⟩
  | k + 1, hk => by
    obtain ⟨h1, h2⟩ := ordL_bound pa h9 k (by omega)
    obtain ⟨h3, h4⟩ := cycs_row pa (k := k) (by omega)
    rw [ordL_take (by omega)]
    refine ⟨Nat.lcm_pos h1 (by omega), ?_⟩
    have h5 : Nat.lcm (ordL ((cycs a).take k)) ((cycs a).getD k []).length ≤ ordL ((cycs a).take k) * ((cycs a).getD k []).length := Nat.div_le_self _ _
    refine Nat.le_trans h5 ?_
    rw [Nat.pow_succ]
    exact Nat.mul_le_mul h2 (by omega)
theorem pow9 : ∀ k, k < 10 → 9 ^ k ≤ 1000000000 := by decide
theorem map_zs_getD (xss : List (List Nat)) (k : Nat) : (xss.map zs).getD k [] = zs (xss.getD k []) := by
  simp [List.getD]
  cases xss[k]? <;> rfl

set_option maxHeartbeats 1000000 in
theorem order_ok (A : Option Addr) (n c : Nat) (a : List Nat) (w : World) (ha : IL w A n (zs a)) (pa : isP a) (h9 : a.length ≤ 9) :
    Calls Try.prog 22 #[.slice A n c] w fun e w' => e = .returned (.tuple #[.int .i64 (ordL (cycs a) : Nat), .int .i64 0]) ∧ Below w.heap.size w w' := by
  have HC := hide (cycles_il A n c a w ha pa h9)
  have HP := hide (And.intro pa h9)
  clear ha pa h9
  go_enter Try.func22, Try.ntmps22
  go_wp2_with fail
  refine HC.out.mono ?_
  rintro e w1 ⟨B, m, d, rfl, hl1, hb1⟩
  have hm := hl1.small
  have HM : Hid ((cycs a).length = m) := by have := hl1.len; rw [List.length_map] at this; exact this
  go_wp2
  go_loopw [6, 19] (fun ov i wr => ∃ k : Nat, k ≤ m ∧ i = .int .i64 k ∧ ov = .int .i64 (ordL ((cycs a).take k) : Nat) ∧ Below w1.heap.size w1 wr) (fun _ i _ => m - (intOf i).toNat)
  case atStart => exact ⟨0, Nat.zero_le _, rfl, rfl, Below.refl _ _⟩
  case round =>
    obtain ⟨k, hk, rfl, rfl, hnx⟩ := hrel
    have hl := hl1.below hnx
    clear hl1
    by_cases hlt : k < m
    · obtain ⟨ad, B8, m8, d8, rfl, hc8, hi8⟩ := hl.at_ hlt
      have HT := hide (ordL_take (xss := cycs a) (k := k) (by rw [HM.out]; exact hlt))
      have hbd := ordL_bound HP.out.1 HP.out.2 k (by rw [HM.out]; exact hk)
      have hrw := cycs_row HP.out.1 (k := k) (by rw [HM.out]; exact hlt)
      have hcl := cycs_length a
      have h9 := HP.out.2
      have hml := HM.out
      have hp9 := pow9 k (by omega)
      have hm8 : m8 = ((cycs a).getD k []).length := by
        have := hi8.len
        rw [map_zs_getD, zs_length] at this
        exact this.symm
      have ho1 := hbd.1
      have ho2 : ordL ((cycs a).take k) ≤ 1000000000 := Nat.le_trans hbd.2 hp9
      have hm1 : 0 < m8 := by omega
      have hm2 : m8 ≤ 9 := by omega
      rw [← hm8] at HT
      clear hbd hrw hcl h9 hml hp9 hm8 hi8 hl
      generalize ordL ((cycs a).take k) = o at *
      go_wp2_with fail
      refine (lcm_any o m8 _ ho1 ho2 hm1 hm2).mono ?_
      rw [← HT.out]
      rintro e w2 ⟨rfl, hb2⟩
      go_wp2
      go_roundw
      case rel => exact ⟨k + 1, by omega, by go_num, rfl, hnx.trans (hb2.mono hnx.size)⟩
      case measure => simp [intOf]; omega
    · have HE : Hid (ordL ((cycs a).take k) = ordL (cycs a)) := by rw [List.take_of_length_le (by rw [HM.out]; omega)]; exact rfl
      generalize ordL ((cycs a).take k) = o at *
      go_wp2
      go_ret2
      rw [HE.out]
      exact ⟨rfl, hb1.trans (hnx.mono hb1.size)⟩

set_option maxHeartbeats 1000000 in
theorem order_err (A : Option Addr) (n c : Nat) (xs : List Int) (w : World) (ha : IL w A n xs) (hf : pf xs ≠ 0) :
    Calls Try.prog 22 #[.slice A n c] w fun e w' => e = .returned (.tuple #[.int .i64 0, .int .i64 (pf xs)]) ∧ Below w.heap.size w w' := by
  have HC := hide (cycles_err A n c xs w ha hf)
  have h2b : (pf xs != 0) = true := by simpa using hf
  clear hf ha
  go_enter Try.func22, Try.ntmps22
  go_wp2_with fail
  refine HC.out.mono ?_
  rintro e w1 ⟨rfl, hb1⟩
  go_wp2
  go_ret2
  exact ⟨rfl, hb1⟩

set_option maxHeartbeats 1000000 in
theorem sign_ok (A : Option Addr) (n c : Nat) (a : List Nat) (w : World) (ha : IL w A n (zs a)) (pa : isP a) (h9 : a.length ≤ 9) :
    Calls Try.prog 23 #[.slice A n c] w fun e w' => e = .returned (.tuple #[.int .i64 (sgnL (cycs a)), .int .i64 0]) ∧ Below w.heap.size w w' := by
  have HC := hide (cycles_il A n c a w ha pa h9)
  have HP := hide (And.intro pa h9)
  clear ha pa h9
  go_enter Try.func23, Try.ntmps23
  go_wp2_with fail
  refine HC.out.mono ?_
  rintro e w1 ⟨B, m, d, rfl, hl1, hb1⟩
  have hm := hl1.small
  have HM : Hid ((cycs a).length = m) := by have := hl1.len; rw [List.length_map] at this; exact this
  go_wp2
  go_loop [6, 19] (fun ov i => ∃ k : Nat, k ≤ m ∧ i = .int .i64 k ∧ ov = .int .i64 (sgnL ((cycs a).take k))) (fun _ i => m - (intOf i).toNat)
  case atStart => exact ⟨0, Nat.zero_le _, rfl, rfl⟩
  case round =>
    obtain ⟨k, hk, rfl, rfl⟩ := hrel
    by_cases hlt : k < m
    · obtain ⟨ad, B8, m8, d8, rfl, hc8, hi8⟩ := hl1.at_ hlt
      have HT := hide (sgnL_take (xss := cycs a) (k := k) (by rw [HM.out]; exact hlt))
      have hone := sgnL_one (cycs a) k (by rw [HM.out]; exact hk)
      have hm8 : m8 = ((cycs a).getD k []).length := by
        have := hi8.len
        rw [map_zs_getD, zs_length] at this
        exact this.symm
      rw [← hm8] at HT
      have hm8s := hi8.small
      clear hm8 hi8 hl1
      have hs1 : -1 ≤ sgnL ((cycs a).take k) := by omega
      have hs2 : sgnL ((cycs a).take k) ≤ 1 := by omega
      clear hone
      generalize sgnL ((cycs a).take k) = o at *
      by_cases hev : m8 % 2 = 0
      · have HT' : Hid (sgnL ((cycs a).take (k + 1)) = -o) := by rw [HT.out, if_pos hev]; exact rfl
        have hb2 : (((m8 : Int) % 2) == 0) = true := by simp; omega
        clear hev
        go_wp2
        go_round
        case rel => exact ⟨k + 1, by omega, by go_num, by rw [HT'.out]⟩
        case measure => simp [intOf]; omega
      · have HT' : Hid (sgnL ((cycs a).take (k + 1)) = o) := by rw [HT.out, if_neg hev]; exact rfl
        have hb2 : (((m8 : Int) % 2) == 0) = false := by simp; omega
        clear hev
        go_wp2
        go_round
        case rel => exact ⟨k + 1, by omega, by go_num, by rw [HT'.out]⟩
        case measure => simp [intOf]; omega
    · have HE : Hid (sgnL ((cycs a).take k) = sgnL (cycs a)) := by rw [List.take_of_length_le (by rw [HM.out]; omega)]; exact rfl
      generalize sgnL ((cycs a).take k) = o at *
      go_wp2
      go_ret2
      rw [HE.out]
      exact ⟨rfl, hb1⟩

set_option maxHeartbeats 1000000 in
theorem sign_err (A : Option Addr) (n c : Nat) (xs : List Int) (w : World) (ha : IL w A n xs) (hf : pf xs ≠ 0) :
    Calls Try.prog 23 #[.slice A n c] w fun e w' => e = .returned (.tuple #[.int .i64 0, .int .i64 (pf xs)]) ∧ Below w.heap.size w w' := by
  have HC := hide (cycles_err A n c xs w ha hf)
  have h2b : (pf xs != 0) = true := by simpa using hf
  clear hf ha
  go_enter Try.func23, Try.ntmps23
  go_wp2_with fail
  refine HC.out.mono ?_
  rintro e w1 ⟨rfl, hb1⟩
  go_wp2
  go_ret2
  exact ⟨rfl, hb1⟩
end Go.Proofs.Ytpemnhalilefmaa
