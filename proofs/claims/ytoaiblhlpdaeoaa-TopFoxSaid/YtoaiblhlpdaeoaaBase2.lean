/- Several texts in one. -/
import Derived.Test.YtoaiblhlpdaeoaaBase1
import Derived.ProofKit
import Derived.SizedLaws
/- DEHORNOY: reducing handles ends for each word; what is left has one sign. ARTIN: the representation is faithful. -/
namespace Go.Proofs.Ytoaiblhlpdaeoaa
set_option linter.unusedVariables false
set_option linter.unusedSimpArgs false
namespace Gar

/-! ### each word is drawn somewhere -/
theorem draw_from {n C : Nat} : ∀ (w : List Int) (a c_ : Nat) (x x' z : M), (∀ l ∈ w, okl n l) → In n x' → In n z → x = pw (full n) a * x' → x * z = pw (full n) c_ → w.length ≤ a → c_ + w.length ≤ C → ∃ y, Dr (pw (full n) C) x w y
  | [], a, c_, x, x', z, _, h1, h2, e1, e2, _, hC => by
    refine ⟨x, ⟨z * pw (full n) (C - c_), ?_⟩, rfl⟩
    rw [← mul_assoc, e2, ← pw_add]
    congr 1
    simp at hC
    omega
  | l :: w, a, c_, x, x', z, hw, h1, h2, e1, e2, ha, hC => by
    simp only [List.length_cons] at ha hC
    have hdv : dv x (pw (full n) C) := ⟨z * pw (full n) (C - c_), by
      rw [← mul_assoc, e2, ← pw_add]
      congr 1
      omega⟩
    have hx : In n x := In_dv hdv (In_pw C)
    obtain ⟨a', rfl⟩ : ∃ a', a = a' + 1 := ⟨a - 1, by omega⟩
    have hfx : ∀ t : M, In n t → full n * t = t * full n := fun t ht => (full_comm ht).symm
    obtain ⟨i, hi, rfl | rfl⟩ := letter_of (hw l (by simp))
    · obtain ⟨hz, z1, z2⟩ := zeta_spec hi
      obtain ⟨y, hy⟩ := draw_from (C := C) w a' (c_ + 1) (x * g i) (full n * (x' * g i)) (zeta n i * z) (fun k hk => hw k (by simp [hk])) (In_mul.2 ⟨In_full n, In_mul.2 ⟨h1, In_g hi⟩⟩) (In_mul.2 ⟨hz, h2⟩)
        (by rw [e1, pw, ← mul_assoc (pw (full n) a'), pw_comm (In_full n) a' |>.symm, mul_assoc, mul_assoc])
        (by
          rw [mul_assoc, ← mul_assoc (g i), ← c_g, ← z1, ← mul_assoc, full_comm hx, mul_assoc, e2, pw])
        (by omega) (by omega)
      exact ⟨y, hdv, x * g i, .p _ _, hy⟩
    · obtain ⟨hz, z1, z2⟩ := zeta_spec hi
      have e3 : x = pw (full n) a' * (x' * zeta n i) * g i := by
        rw [e1, pw, pw_comm (In_full n) a', mul_assoc, hfx x' h1, z2, mul_assoc, mul_assoc]
      obtain ⟨y, hy⟩ := draw_from (C := C) w a' (c_ + 1) (pw (full n) a' * (x' * zeta n i)) (x' * zeta n i) (g i * (z * full n)) (fun k hk => hw k (by simp [hk])) (In_mul.2 ⟨h1, hz⟩) (In_mul.2 ⟨In_g hi, In_mul.2 ⟨h2, In_full n⟩⟩) rfl
        (by rw [← mul_assoc, ← e3, ← mul_assoc, e2, pw, pw_comm (In_full n)])
        (by omega) (by omega)
      refine ⟨y, hdv, _, ?_, hy⟩
      rw [e3]
      exact .n _ _
theorem drawn {n : Nat} {w : List Int} (hw : ∀ l ∈ w, okl n l) : ∃ b x y, In n b ∧ Dr b x w y := by
  obtain ⟨y, hy⟩ := draw_from (C := w.length + w.length) w w.length w.length (pw (full n) w.length) 1 1 hw (In_one n) (In_one n) (mul_one _).symm (mul_one _) (Nat.le_refl _) (Nat.le_refl _)
  exact ⟨_, _, y, In_pw _, hy⟩
theorem HS.val {n i : Nat} {w w' : List Int} (h : HS i w w') (hw : Lo n 0 w) : gp n w' = gp n w := by
  obtain ⟨b, x, y, hb, d⟩ := drawn fun l hl => (hw l hl).1
  have h1 := Dr.val hb (fun l hl => (hw l hl).1) d
  have h2 := Dr.val hb (fun l hl => ((h.lo hw).1 l hl).1) (h.dr d)
  exact G_cancel (h2.trans h1.symm)

/-! ### it ends -/
theorem hdl_ge {i : Nat} {e : Bool} {v : List Int} (hv : InsOk i v) : ∀ l ∈ hlet e i :: (v ++ [hlet (!e) i]), i + 1 ≤ l.natAbs := fun l hl => by
  simp at hl
  rcases hl with rfl | hl | rfl
  · rw [hlet_abs]; omega
  · have := (hv.1 l hl).ge; omega
  · rw [hlet_abs]; omega
theorem HS.split {i : Nat} {w w' u t : List Int} {s : Int} (h : HS i w w') (e : w = u ++ s :: t) (hs : s.natAbs ≤ i) : (∃ u', HS i u u' ∧ w' = u' ++ s :: t) ∨ ∃ t', HS i t t' ∧ w' = u ++ s :: t' := by
  cases h with
  | mk A B v f hv =>
    have hg := hdl_ge (e := f) hv
    have hne : hlet f i :: (v ++ [hlet (!f) i]) ≠ [] := by simp
    have hsub : ∀ A B : List Int, HS i (A ++ ((hlet f i :: (v ++ [hlet (!f) i])) ++ B)) (A ++ (v.flatMap (hsub f i) ++ B)) := fun A B => HS.mk A B v f hv
    generalize hlet f i :: (v ++ [hlet (!f) i]) = H at *
    generalize v.flatMap (Gar.hsub f i) = H' at *
    rcases List.append_eq_append_iff.1 e with ⟨a', h1, h2⟩ | ⟨c', h1, h2⟩
    · rcases List.append_eq_append_iff.1 h2 with ⟨d, q1, q2⟩ | ⟨d, q1, q2⟩
      · left
        refine ⟨A ++ (H' ++ d), ?_, ?_⟩
        · rw [h1, q1]; exact hsub A d
        · rw [q2]; simp
      · cases d with
        | nil =>
          left
          rw [List.append_nil] at q1
          rw [List.nil_append] at q2
          refine ⟨A ++ (H' ++ []), ?_, ?_⟩
          · rw [h1, ← q1]
            have := hsub A []
            rwa [List.append_nil] at this
          · rw [← q2]; simp
        | cons k d =>
          exfalso
          injection q2 with q2 q3
          have := hg k (by rw [q1]; simp)
          rw [← q2] at this
          omega
    · cases c' with
      | nil =>
        rw [List.nil_append] at h2
        cases H with
        | nil => exact absurd rfl hne
        | cons k H =>
          exfalso
          injection h2 with h2 _
          have := hg k (by simp)
          rw [← h2] at this
          omega
      | cons k c' =>
        injection h2 with h2 h3
        right
        refine ⟨c' ++ (H' ++ B), ?_, ?_⟩
        · rw [h3]; exact hsub c' B
        · rw [h1, h2]; simp
/-! ### words without handles -/
def NoH (w : List Int) : Prop := ∀ i w', ¬ HS i w w'
theorem HS.ctx {i : Nat} {w w' : List Int} (h : HS i w w') (p q : List Int) : HS i (p ++ (w ++ q)) (p ++ (w' ++ q)) := by
  cases h with
  | mk A B v e hv =>
    have := HS.mk (p ++ A) (B ++ q) v e hv
    simpa using this
theorem both_pair {m : Nat} : ∀ {v : List Int}, up m ∈ v → -up m ∈ v → ∃ e A mid B, v = A ++ (hlet e m :: (mid ++ [hlet (!e) m]) ++ B) ∧ up m ∉ mid ∧ -up m ∉ mid
  | [], h, _ => by cases h
  | l :: v, h1, h2 => by
    by_cases hb : up m ∈ v ∧ -up m ∈ v
    · obtain ⟨e, A, mid, B, e1, e2⟩ := both_pair hb.1 hb.2
      exact ⟨e, l :: A, mid, B, by rw [e1]; rfl, e2⟩
    · have key : ∃ e, l = hlet e m ∧ hlet (!e) m ∈ v ∧ hlet e m ∉ v := by
        by_cases c : up m ∈ v
        · have c2 : -up m ∉ v := fun k => hb ⟨c, k⟩
          refine ⟨false, ?_, c, c2⟩
          rcases List.mem_cons.1 h2 with h | h
          · exact h.symm
          · exact absurd h c2
        · refine ⟨true, ?_, ?_, c⟩
          · rcases List.mem_cons.1 h1 with h | h
            · exact h.symm
            · exact absurd h c
          · rcases List.mem_cons.1 h2 with h | h
            · rcases List.mem_cons.1 h1 with k | k
              · exact absurd (k.trans h.symm) (up_ne _ _)
              · exact absurd k c
            · exact h
      obtain ⟨e, rfl, k1, k2⟩ := key
      obtain ⟨mid, B, rfl, k3⟩ := List.eq_append_cons_of_mem k1
      have k4 : hlet e m ∉ mid := fun k => k2 (List.mem_append.2 (.inl k))
      refine ⟨e, [], mid, B, by simp, ?_⟩
      cases e with
      | true => exact ⟨k4, k3⟩
      | false => exact ⟨k3, k4⟩
theorem ins_of {m : Nat} {l : Int} (h : m + 2 ≤ l.natAbs) : Ins m l := by
  by_cases c : l.natAbs = m + 2
  · rcases Int.natAbs_eq l with e | e
    · have : l = up (m + 1) := by unfold up; omega
      rw [this]; exact .p
    · have : l = -up (m + 1) := by unfold up; omega
      rw [this]; exact .n
  · rcases Int.natAbs_eq l with e | e
    · have : l = up (l.natAbs - 1) := by unfold up; omega
      rw [this]; exact .far _ (by omega)
    · have : l = -up (l.natAbs - 1) := by unfold up; omega
      rw [this]; exact .farn _ (by omega)
/-- A word with both signs of its smallest letter has a handle. -/
theorem has_handle {n : Nat} : ∀ (k m : Nat) {v : List Int}, n ≤ m + k → Lo n m v → up m ∈ v → -up m ∈ v → ∃ i v', HS i v v'
  | 0, m, v, hk, hv, h1, _ => by
    have := (hv _ h1).1.2
    unfold up at this
    omega
  | k + 1, m, v, hk, hv, h1, h2 => by
    obtain ⟨e, A, mid, B, rfl, k1, k2⟩ := both_pair h1 h2
    have hmid : Lo n (m + 1) mid := fun l hl => by
      have h3 := hv l (by simp [hl])
      have h4 : l ≠ up m := fun q => k1 (q ▸ hl)
      have h5 : l ≠ -up m := fun q => k2 (q ▸ hl)
      unfold up at h4 h5
      exact ⟨h3.1, by omega⟩
    by_cases c : up (m + 1) ∈ mid ∧ -up (m + 1) ∈ mid
    · obtain ⟨i, v', h⟩ := has_handle k (m + 1) (by omega) hmid c.1 c.2
      have := h.ctx (A ++ [hlet e m]) ([hlet (!e) m] ++ B)
      have e2 : A ++ (hlet e m :: (mid ++ [hlet (!e) m]) ++ B) = A ++ [hlet e m] ++ (mid ++ ([hlet (!e) m] ++ B)) := by simp
      rw [e2]
      exact ⟨i, _, this⟩
    · refine ⟨m, _, HS.mk A B mid e ⟨fun l hl => ins_of (hmid l hl).2, ?_⟩⟩
      by_cases q : up (m + 1) ∈ mid
      · exact .inr fun q2 => c ⟨q, q2⟩
      · exact .inl q
theorem least {n : Nat} : ∀ (k m : Nat) {v : List Int}, n ≤ m + k → Lo n m v → v ≠ [] → ∃ m', Lo n m' v ∧ ∃ l ∈ v, l.natAbs = m' + 1
  | 0, m, [], _, _, h => absurd rfl h
  | 0, m, l :: v, hk, hv, _ => by
    have := hv l (by simp)
    unfold okl at this
    omega
  | k + 1, m, v, hk, hv, h => by
    by_cases c : ∃ l ∈ v, l.natAbs = m + 1
    · exact ⟨m, hv, c⟩
    · refine least k (m + 1) (by omega) (fun l hl => ⟨(hv l hl).1, ?_⟩) h
      have h1 := (hv l hl).2
      have h2 : l.natAbs ≠ m + 1 := fun e => c ⟨l, hl, e⟩
      omega
/-- A word without handles has one sign of its smallest letter. -/
theorem NoH.sign {n : Nat} {v : List Int} (h : NoH v) (hv : Lo n 0 v) (hne : v ≠ []) : ∃ m d, Lo n m v ∧ hlet d m ∈ v ∧ hlet (!d) m ∉ v := by
  obtain ⟨m, hm, l, hl, e⟩ := least n 0 (by omega) hv hne
  have hb : ¬ (up m ∈ v ∧ -up m ∈ v) := fun ⟨a, b⟩ => by
    obtain ⟨i, v', q⟩ := has_handle n m (by omega) hm a b
    exact h i v' q
  rcases Int.natAbs_eq l with q | q
  · have : l = up m := by unfold up; omega
    subst this
    exact ⟨m, true, hm, hl, fun k => hb ⟨hl, k⟩⟩
  · have : l = -up m := by unfold up; omega
    subst this
    exact ⟨m, false, hm, hl, fun k => hb ⟨k, hl⟩⟩
theorem Lo.iw {n m : Nat} {w : List Int} (h : Lo n m w) : Lo n m (Gar.iw w) := fun l hl => by
  have := h _ (iw_mem.1 hl)
  refine ⟨?_, by omega⟩
  have := this.1.neg
  rwa [Int.neg_neg] at this
theorem Lo.nz {n m : Nat} {w : List Int} (h : Lo n m w) : Proofs.Ytoaiblhlpdaeoaa.nz w := fun z hz => (h z hz).1.1
theorem Lo.okl {n m : Nat} {w : List Int} (h : Lo n m w) : ∀ x ∈ w, Gar.okl n x := fun x hx => (h x hx).1
end Gar
end Go.Proofs.Ytoaiblhlpdaeoaa
/- A slice of integers that came in as an argument. -/
namespace Go.Proofs.Ytoaiblhlpdaeoaa
set_option linter.unusedVariables false
set_option linter.unusedSimpArgs false
open Go.RowKit

theorem IL.of_row {W : World} {a : Addr} {len cap : Nat} {zs : List Int} (hl : len ≤ cap) (hz : zs.length = cap) (hr : cap * 8 ≤ 140737488351232) (hcell : ∀ i, i < zs.length → W.cell? (a.add i) = some (.int .i64 (zs.getD i 0))) : IL W (some a) len (zs.take len) := by
  refine ⟨by rw [List.length_take]; omega, by omega, fun h0 => ⟨a, rfl, ?_, fun j hj => ?_⟩⟩
  · have := World.block_lt_of_cell? W _ (hcell 0 (by omega))
    rwa [block_of_add] at this
  · rw [hcell j (by omega)]
    simp [List.getD, List.getElem?_take, hj]
end Go.Proofs.Ytoaiblhlpdaeoaa
