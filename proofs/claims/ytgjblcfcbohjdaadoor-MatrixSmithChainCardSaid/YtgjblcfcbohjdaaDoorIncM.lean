/- The minors of increasing rows and columns are enough; what timbref1.Factors reckons. -/
import Derived.Test.YtgjblcfcbohjdaaDoorFacRef
import Derived.Test.YtgjblcfcbohjdaaDoorBase
namespace Go.Proofs.YtgjblcfcbohjdaaDoor
set_option linter.unusedVariables false
set_option linter.unusedSimpArgs false
open Go.RowKit

theorem dvd_gcd_int {g a b : Int} : g ∣ ((Int.gcd a b : Nat) : Int) ↔ g ∣ a ∧ g ∣ b := by
  unfold Int.gcd
  rw [← Int.natAbs_dvd_natAbs, Int.natAbs_natCast, Nat.dvd_gcd_iff, Int.natAbs_dvd_natAbs, Int.natAbs_dvd_natAbs]
theorem dvd_stepF {M : Mtx Int} {K : Nat} {rows : List Nat} {g : Int} : ∀ (l : List (List Nat)) (d : Int), g ∣ l.foldl (stepF M K rows) d ↔ g ∣ d ∧ ∀ cols ∈ l, g ∣ detR K (subM M rows cols)
  | [], d => by simp
  | c :: t, d => by
    rw [List.foldl_cons, dvd_stepF t]
    unfold stepF
    rw [dvd_gcd_int]
    simp only [List.mem_cons, forall_eq_or_imp]
    exact ⟨fun ⟨⟨h1, h2⟩, h3⟩ => ⟨h1, h2, h3⟩, fun ⟨h1, h2, h3⟩ => ⟨⟨h1, h2⟩, h3⟩⟩
theorem dvd_stepF2 {M : Mtx Int} {K m : Nat} {g : Int} : ∀ (l : List (List Nat)) (d : Int), g ∣ l.foldl (stepF2 M K m) d ↔ g ∣ d ∧ ∀ rows ∈ l, ∀ cols ∈ chs m K [] 0, g ∣ detR K (subM M rows cols)
  | [], d => by simp
  | c :: t, d => by
    rw [List.foldl_cons, dvd_stepF2 t]
    unfold stepF2
    rw [dvd_stepF]
    simp only [List.mem_cons, forall_eq_or_imp]
    exact ⟨fun ⟨⟨h1, h2⟩, h3⟩ => ⟨h1, h2, h3⟩, fun ⟨h1, h2, h3⟩ => ⟨⟨h1, h2⟩, h3⟩⟩
theorem mem_chs {n : Nat} : ∀ {r : Nat} {l p : List Nat} {a : Nat}, p ∈ chs n r l a ↔ ∃ t, p = l ++ t ∧ t.length = r ∧ Sorted t ∧ ∀ x ∈ t, a ≤ x ∧ x < n
  | 0, l, p, a => by
    simp only [chs, List.mem_singleton]
    constructor
    · rintro rfl
      exact ⟨[], by simp, rfl, List.Pairwise.nil, by simp⟩
    · rintro ⟨t, rfl, ht, _⟩
      rw [List.eq_nil_of_length_eq_zero ht, List.append_nil]
  | r + 1, l, p, a => by
    simp only [chs, List.mem_flatMap, List.mem_range'_1]
    constructor
    · rintro ⟨i, ⟨hi1, hi2⟩, hp⟩
      obtain ⟨t, rfl, ht, hs, hx⟩ := mem_chs.1 hp
      refine ⟨i :: t, by simp, by simp [ht], List.pairwise_cons.2 ⟨fun y hy => by have := (hx y hy).1; omega, hs⟩, fun x hx' => ?_⟩
      rcases List.mem_cons.1 hx' with rfl | h
      · omega
      · have := hx x h; omega
    · rintro ⟨t, rfl, ht, hs, hx⟩
      match t, ht with
      | i :: t, ht =>
        have hs' := List.pairwise_cons.1 hs
        have hi := hx i (by simp)
        refine ⟨i, ⟨hi.1, by omega⟩, mem_chs.2 ⟨t, by simp, by simpa using ht, hs'.2, fun x h => ?_⟩⟩
        have h1 := hs'.1 x h
        have h2 := hx x (by simp [h])
        omega
theorem mem_chs0 {n K : Nat} {p : List Nat} : p ∈ chs n K [] 0 ↔ Inc n K p := by
  rw [mem_chs]
  constructor
  · rintro ⟨t, rfl, h1, h2, h3⟩
    exact ⟨by simpa using h2, by simpa using h1, fun x hx => (h3 x (by simpa using hx)).2⟩
  · rintro ⟨h1, h2, h3⟩
    exact ⟨p, by simp, h2, h1, fun x hx => ⟨Nat.zero_le _, h3 x hx⟩⟩

/-! ### any rows and columns -/
theorem det_perm {g : Int} {L L' : List Nat} (h : L.Perm L') : ∀ (P : List Nat) (K : Nat) (N : Nat → Nat → Int), (P ++ L).length = K → g ∣ detR K (fun a b => N ((P ++ L').getD a 0) b) → g ∣ detR K (fun a b => N ((P ++ L).getD a 0) b) := by
  induction h with
  | nil => exact fun _ _ _ _ h => h
  | cons x _ ih =>
    intro P K N hK hd
    have := ih (P ++ [x]) K N (by simpa using hK)
    simp only [List.append_assoc, List.singleton_append] at this
    exact this hd
  | swap x y l =>
    intro P K N hK hd
    have A := detR_alt (R := Int) K
    have hlen : P.length + 1 < K := by rw [← hK]; simp
    have hs := A.swap (fun a b => N ((P ++ x :: y :: l).getD a 0) b) (r := P.length) (s := P.length + 1) (by omega) hlen (by omega)
    have e : swapR (fun a b => N ((P ++ x :: y :: l).getD a 0) b) P.length (P.length + 1) = fun a b => N ((P ++ y :: x :: l).getD a 0) b := by
      funext a b
      unfold swapR updR
      have g0 : ∀ (u v : Nat), (P ++ u :: v :: l).getD P.length 0 = u := fun u v => by simp [List.getD]
      have g1 : ∀ (u v : Nat), (P ++ u :: v :: l).getD (P.length + 1) 0 = v := fun u v => by simp [List.getD_eq_getElem?_getD, List.getElem?_append]
      by_cases h1 : a = P.length + 1
      · subst h1; rw [if_pos rfl]; dsimp only; rw [g0, g1]
      · rw [if_neg h1]
        by_cases h2 : a = P.length
        · subst h2; rw [if_pos rfl]; dsimp only; rw [g1, g0]
        · rw [if_neg h2]
          congr 1
          simp only [List.getD_eq_getElem?_getD, List.getElem?_append]
          by_cases h3 : a < P.length
          · rw [if_pos h3, if_pos h3]
          · rw [if_neg h3, if_neg h3]
            obtain ⟨k, hk⟩ : ∃ k, a - P.length = k + 2 := ⟨a - P.length - 2, by omega⟩
            rw [hk]
            simp
    rw [e] at hs
    rw [hs]
    exact (Int.dvd_neg).2 hd
  | trans _ _ h1 h2 =>
    intro P K N hK hd
    rename_i l1 l2 l3 p1 p2
    refine h1 P K N hK (h2 P K N ?_ hd)
    rw [← hK, List.length_append, List.length_append, p1.length_eq]
theorem det_rows {g : Int} {n K : Nat} {N : Nat → Nat → Int} (h : ∀ rows, Inc n K rows → g ∣ detR K (fun a b => N (rows.getD a 0) b)) {L : List Nat} (hl : L.length = K) (hx : ∀ x ∈ L, x < n) : g ∣ detR K (fun a b => N (L.getD a 0) b) := by
  by_cases hn : L.Nodup
  · have hp : L.Perm ((List.range n).filter fun x => L.contains x) := (List.perm_ext_iff_of_nodup hn (List.Nodup.sublist List.filter_sublist List.nodup_range)).2 fun x => by
      simp only [List.mem_filter, List.mem_range, List.contains_iff_mem]
      exact ⟨fun h => ⟨hx x h, h⟩, fun h => h.2⟩
    have hi : Inc n K ((List.range n).filter fun x => L.contains x) := ⟨List.Pairwise.sublist List.filter_sublist (range_sorted n), by rw [← hp.length_eq, hl], fun x h => List.mem_range.1 (List.mem_filter.1 h).1⟩
    have := det_perm (g := g) hp [] K N (by simpa using hl) (by simpa using h _ hi)
    simpa using this
  · have A := detR_alt (R := Int) K
    have hd : ∃ i j, i < j ∧ j < L.length ∧ L.getD i 0 = L.getD j 0 := by
      refine Classical.byContradiction fun hc => hn ?_
      refine List.pairwise_iff_getElem.2 fun i j hi hj hij he => hc ⟨i, j, hij, hj, ?_⟩
      rw [getD_eq hi, getD_eq hj, he]
    obtain ⟨i, j, hij, hj, he⟩ := hd
    rw [A.alt _ i j hij (by omega) (fun b _ => by rw [he])]
    exact Int.dvd_zero _
theorem div_inc {n m K : Nat} {M : Mtx Int} {g : Int} : DivAll n m K M g ↔ ∀ rows cols, Inc n K rows → Inc m K cols → g ∣ detR K (subM M rows cols) := by
  constructor
  · intro h rows cols hr hc
    exact h (fun a => rows.getD a 0) (fun b => cols.getD b 0) (fun a ha => hr.2.2 _ (getD_mem (by rw [hr.2.1]; exact ha))) (fun b hb => hc.2.2 _ (getD_mem (by rw [hc.2.1]; exact hb)))
  · intro h I J hI hJ
    have e : ∀ (I : Nat → Nat) {a : Nat}, a < K → ((List.range K).map I).getD a 0 = I a := fun I a ha => by simp [List.getD, ha]
    have h1 : ∀ cols, Inc m K cols → g ∣ detR K (fun a b => (fun i b => M i (cols.getD b 0)) (((List.range K).map I).getD a 0) b) := fun cols hc =>
      det_rows (N := fun i b => M i (cols.getD b 0)) (fun rows hr => h rows cols hr hc) (by simp) (fun x hx => by
        obtain ⟨a, ha, rfl⟩ := List.mem_map.1 hx
        exact hI a (List.mem_range.1 ha))
    have h2 : g ∣ detR K (fun b a => (fun j a => M (((List.range K).map I).getD a 0) j) (((List.range K).map J).getD b 0) a) :=
      det_rows (N := fun j a => M (((List.range K).map I).getD a 0) j) (fun cols hc => by
        have := h1 cols hc
        rw [← detR_turn] at this
        exact this) (by simp) (fun x hx => by
        obtain ⟨a, ha, rfl⟩ := List.mem_map.1 hx
        exact hJ a (List.mem_range.1 ha))
    rw [← detR_turn] at h2
    have e2 : minorM K M I J = detR K (turnM fun b a => (fun j a => M (((List.range K).map I).getD a 0) j) (((List.range K).map J).getD b 0) a) := detR_congr fun a ha b hb => by
      show M (I a) (J b) = M (((List.range K).map I).getD a 0) (((List.range K).map J).getD b 0)
      rw [e I ha, e J hb]
    rw [e2]
    exact h2
/-- The greatest common divisor of the minors, as the reference reckons it. -/
def dK (M : Mtx Int) (n m K : Nat) : Int := (chs n K [] 0).foldl (stepF2 M K m) 0
theorem dK_dvd {M : Mtx Int} {n m K : Nat} {g : Int} : g ∣ dK M n m K ↔ DivAll n m K M g := by
  unfold dK
  rw [dvd_stepF2, div_inc]
  constructor
  · rintro ⟨_, h⟩ rows cols hr hc
    exact h rows (mem_chs0.2 hr) cols (mem_chs0.2 hc)
  · exact fun h => ⟨Int.dvd_zero _, fun rows hr cols hc => h rows cols (mem_chs0.1 hr) (mem_chs0.1 hc)⟩
theorem stepF_nonneg {M : Mtx Int} {K : Nat} {rows : List Nat} : ∀ (l : List (List Nat)) (d : Int), 0 ≤ d → 0 ≤ l.foldl (stepF M K rows) d
  | [], d, h => h
  | c :: t, d, h => stepF_nonneg t _ (by unfold stepF; omega)
theorem dK_nonneg {M : Mtx Int} {n m K : Nat} : 0 ≤ dK M n m K := by
  have : ∀ (l : List (List Nat)) (d : Int), 0 ≤ d → 0 ≤ l.foldl (stepF2 M K m) d := fun l => by
    induction l with
    | nil => exact fun d h => h
    | cons c t ih => exact fun d h => ih _ (stepF_nonneg _ _ h)
  exact this _ _ (Int.le_refl 0)
theorem dK_eq {M : Mtx Int} {n m K : Nat} {s : Nat → Int} (hs : ∀ i, i + 1 < min n m → s i ∣ s (i + 1)) (he : El n m M (diagM s)) (hK : K ≤ min n m) : dK M n m K = ((prodF s K).natAbs : Int) := by
  have h := natAbs_of_dvd (a := dK M n m K) (b := prodF s K) fun g => by rw [dK_dvd, smith_div hs he hK g]
  have := dK_nonneg (M := M) (n := n) (m := m) (K := K)
  omega
end Go.Proofs.YtgjblcfcbohjdaaDoor
