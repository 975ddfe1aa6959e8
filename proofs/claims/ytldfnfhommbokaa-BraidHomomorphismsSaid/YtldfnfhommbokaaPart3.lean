/- Several texts of the walk in one. -/
import Derived.Test.YtldfnfhommbokaaPart2
import Derived.Test.YtldfnfhommbokaaPart1
import Derived.Test.YtldfnfhommbokaaBase
import Derived.Laws.CopyOwn
import Derived.Deep.OwnRows
import Derived.Deep.DeepCutAuto
import Derived.Deep.LoopGhost
/- timbref1.Opposite: the inverse word. -/
namespace Go.Proofs.Ytldfnfhommbokaa
set_option linter.unusedVariables false
set_option linter.unusedSimpArgs false
open Go.RowKit

/-- The last k letters of the inverse word. -/
def oppK (xs : List Int) (k : Nat) : List Int := (List.range xs.length).map fun p => if xs.length - 1 - p < k then -(xs.getD (xs.length - 1 - p) 0) else 0
theorem oppK_length (xs : List Int) (k : Nat) : (oppK xs k).length = xs.length := by simp [oppK]
theorem oppK_getD (xs : List Int) (k : Nat) {p : Nat} (hp : p < xs.length) : (oppK xs k).getD p 0 = if xs.length - 1 - p < k then -(xs.getD (xs.length - 1 - p) 0) else 0 := by
  simp [oppK, List.getD, hp]
theorem listI_ext2 {a b : List Int} (hl : a.length = b.length) (h : ∀ i, i < a.length → a.getD i 0 = b.getD i 0) : a = b := by
  refine List.ext_getElem hl fun i h1 h2 => ?_
  have := h i h1
  simpa [List.getD, List.getElem?_eq_getElem h1, List.getElem?_eq_getElem h2] using this
theorem oppK_zero (xs : List Int) : oppK xs 0 = List.replicate xs.length 0 := by
  refine listI_ext2 (by simp [oppK]) fun i hi => ?_
  rw [oppK_length] at hi
  rw [oppK_getD xs 0 hi, if_neg (by omega)]
  simp [List.getD, hi]
theorem oppK_set (xs : List Int) {k : Nat} (hk : k < xs.length) : (oppK xs k).set (xs.length - 1 - k) (-(xs.getD k 0)) = oppK xs (k + 1) := by
  refine listI_ext2 (by simp [oppK]) fun i hi => ?_
  rw [List.length_set, oppK_length] at hi
  rw [oppK_getD xs (k + 1) hi]
  have hs : ((oppK xs k).set (xs.length - 1 - k) (-(xs.getD k 0))).getD i 0 = if i = xs.length - 1 - k then -(xs.getD k 0) else (oppK xs k).getD i 0 := by
    simp only [List.getD, List.getElem?_set]
    by_cases e : i = xs.length - 1 - k
    · have : xs.length - 1 - k < (oppK xs k).length := by rw [oppK_length]; omega
      rw [if_pos e.symm, if_pos e, if_pos this]
      rfl
    · rw [if_neg (fun h => e h.symm), if_neg e]
  rw [hs]
  by_cases e : i = xs.length - 1 - k
  · rw [if_pos e, if_pos (by omega), show xs.length - 1 - i = k by omega]
  · rw [if_neg e, oppK_getD xs k hi]
    by_cases h1 : xs.length - 1 - i < k
    · rw [if_pos h1, if_pos (by omega)]
    · rw [if_neg h1, if_neg (by omega)]
theorem oppK_end (xs : List Int) : oppK xs xs.length = invw xs := by
  refine listI_ext2 (by rw [oppK_length, invw_length]) fun i hi => ?_
  rw [oppK_length] at hi
  rw [oppK_getD xs _ hi, if_pos (by omega)]
  unfold invw
  simp only [List.getD]
  rw [List.getElem?_reverse (by simpa using hi), List.length_map, List.getElem?_map, List.getElem?_eq_getElem (show xs.length - 1 - i < xs.length by omega)]
  rfl

set_option maxHeartbeats 1000000 in
theorem opposite_any (A : Option Addr) (n c : Nat) (xs : List Int) (w : World) (ha : IL w A n xs) (hb : ∀ x ∈ xs, -1000 ≤ x ∧ x ≤ 1000) :
    Calls Try.prog 17 #[.slice A n c] w (GivesOwn w (invw xs)) := by
  have hl := ha.len
  have hna := ha.small
  have HA := hide ha
  have HL := hide hl
  have HB := hide hb
  obtain ⟨i0, hi0, hz0, hz1, hz2⟩ := info_parts int_info
  clear ha hl hb
  go_enter Try.func17, Try.ntmps17
  go_wp2_with (at_make; refine wpList_make_full _ rfl _ _ 22 rfl w.heap.size 3 i0 (.int .i64 0) 1 Try.underlying22 hi0 hz0 hz1 .i64 .i64 _ _ n rfl rfl rfl rfl (by rw [hz2]; omega) (by unfold maxLen; omega) (Nat.le_refl _) ?_; intro w2 hown2 hg2)
  have hB2 : Below w.heap.size w w2 := (Below.refl _ _).grown hg2 (Nat.le_refl _) (by intro k hk; cases hk)
  have hw2 := OwnI.zero (z := #[]) hown2 (by omega)
  have HW2 : Hid (OwnI w2 w.heap.size (some ⟨w.heap.size, 0, none⟩) n n (oppK xs 0)) := by rw [oppK_zero, HL.out]; exact hw2
  clear hown2 hg2 hw2
  go_loopw [11] (fun iv wr => ∃ k : Nat, k ≤ n ∧ iv = .int .i64 k ∧ OwnI wr w.heap.size (some ⟨w.heap.size, 0, none⟩) n n (oppK xs k) ∧ Below w.heap.size w wr) (fun iv _ => n - (intOf iv).toNat)
  case atStart => exact ⟨0, Nat.zero_le _, rfl, HW2.out, hB2⟩
  case round =>
    clear HW2 hB2
    obtain ⟨k, hk, rfl, ho, hb⟩ := hrel
    by_cases hlt : k < n
    · obtain ⟨ad, rfl, hcl⟩ := (HA.out.below hb).at_ hlt
      have hkl : k < xs.length := by rw [HL.out]; exact hlt
      have hm : xs.getD k 0 ∈ xs := by
        rw [show xs.getD k 0 = xs[k] by simp [List.getD, List.getElem?_eq_getElem hkl]]
        exact List.getElem_mem _
      obtain ⟨hx0, hx1⟩ := HB.out _ hm
      have hp : n - 1 - k < n := by omega
      have hcell := ho.cell hp
      have hfr := ho.frozen (n - 1 - k)
      have hN := ho.set_ (n - 1 - k) (-(xs.getD k 0))
      have hset := oppK_set xs hkl
      rw [HL.out] at hset
      rw [hset] at hN
      have HN := hide hN
      have HB2 := hide (hb.setCell (p := ⟨w.heap.size, n - 1 - k, none⟩) (Nat.le_refl _) (.int .i64 (-(xs.getD k 0))))
      obtain ⟨p, hp'⟩ : ∃ p, n - 1 - k = p := ⟨_, rfl⟩
      rw [hp'] at hp hcell hfr HN HB2
      have hidx : (n : Int) - 1 - (k : Int) = (p : Int) := by omega
      generalize xs.getD k 0 = x at *
      clear hm hN hset ho hb hp'
      go_wp2
      go_roundw
      case rel => exact ⟨k + 1, by omega, by go_num, HN.out, HB2.out⟩
      case measure => simp [intOf]; omega
    · have hkn : k = n := by omega
      have HE : Hid (OwnI wr w.heap.size (some ⟨w.heap.size, 0, none⟩) n n (invw xs)) := by
        rw [← oppK_end, HL.out, ← hkn]
        rw [hkn] at ho ⊢
        exact ho
      clear ho hkn
      go_wp2
      go_ret
      exact ⟨_, _, _, rfl, HE.out, hb⟩
end Go.Proofs.Ytldfnfhommbokaa
/- slices.Repeat. -/
namespace Go.Proofs.Ytldfnfhommbokaa
set_option linter.unusedVariables false
set_option linter.unusedSimpArgs false
open Go.RowKit

theorem splice_map {f : Int → Value} (L : List Int) (off : Nat) (cs : List Int) : splice (L.map f) off (cs.map f) = (splice L off cs).map f := by
  simp [splice, List.map_take, List.map_drop]
/-- n elements of the repeated list, then zeros. -/
def repZ (xs : List Int) (k n : Nat) : List Int := (rep xs k).take n ++ List.replicate ((rep xs k).length - n) 0
theorem repZ_length (xs : List Int) (k n : Nat) (h : n ≤ (rep xs k).length) : (repZ xs k n).length = (rep xs k).length := by
  simp [repZ]; omega
theorem repZ_zero (xs : List Int) (k : Nat) : repZ xs k 0 = List.replicate (rep xs k).length 0 := by simp [repZ]
theorem repZ_end (xs : List Int) (k : Nat) : repZ xs k (rep xs k).length = rep xs k := by simp [repZ]
theorem repZ_first (xs : List Int) (k : Nat) (hk : 0 < k) : splice (repZ xs k 0) 0 xs = repZ xs k xs.length := by
  obtain ⟨k, rfl⟩ : ∃ j, k = j + 1 := ⟨k - 1, by omega⟩
  simp [splice, repZ, rep_succ]
theorem repZ_step (xs : List Int) (k q m : Nat) (hq : q ≤ k) (hm : q * xs.length + m ≤ (rep xs k).length) (hmq : m ≤ q * xs.length) :
    splice (repZ xs k (q * xs.length)) (q * xs.length) ((rep xs k).take m) = repZ xs k (q * xs.length + m) := by
  have hl := rep_length xs k
  have hlq := rep_length xs q
  have e0 : rep xs k = rep xs q ++ rep xs (k - q) := by rw [← rep_add]; congr 1; omega
  have e0' : rep xs k = rep xs (k - q) ++ rep xs q := by rw [← rep_add]; congr 1; omega
  have hl2 := rep_length xs (k - q)
  have e1 : (rep xs k).take (q * xs.length) = rep xs q := by rw [e0, List.take_append_of_le_length (by omega), List.take_of_length_le (by omega)]
  have hlen : (rep xs k).length = (rep xs q).length + (rep xs (k - q)).length := by
    conv => lhs; rw [e0]
    exact List.length_append
  have e2 : (rep xs k).take (q * xs.length + m) = rep xs q ++ (rep xs k).take m := by
    conv => lhs; rw [e0]
    rw [List.take_append, List.take_of_length_le (by omega)]
    congr 1
    rw [e0', List.take_append_of_le_length (by omega)]
    congr 1
    omega
  unfold repZ
  rw [e1, e2]
  unfold splice
  rw [List.take_append_of_le_length (by omega), List.take_of_length_le (by omega), List.append_assoc]
  congr 1
  congr 1
  rw [List.drop_append, List.drop_of_length_le (by omega), List.nil_append, List.drop_replicate]
  congr 1
  simp only [List.length_take]
  omega
theorem OwnI.ofRow {w : World} {base g n : Nat} {xs : List Int} (hb : base ≤ g) (h : w.heap[g]? = some (.cells (xs.map (Value.int .i64)).toArray 3 (0, 0))) (hn : xs.length = n) (hs : n ≤ 17592186044416) : OwnI w base (some ⟨g, 0, none⟩) n n xs := by
  refine ⟨⟨by simpa using hn, .inr ⟨g, n, _, rfl, hb, h, Nat.le_refl _, by unfold maxLen; omega, ?_, ?_⟩⟩, hs⟩
  · simp [hn]
  · rw [← hn]; exact List.take_of_length_le (by simp)
theorem il_ofRow {w : World} {g : Nat} {xs : List Int} (h : w.heap[g]? = some (.cells (xs.map (Value.int .i64)).toArray 3 (0, 0))) (j : Nat) (v : Value) (m : Nat) (hv : ((xs.take m).map (Value.int .i64))[j]? = some v) : w.cell? ((⟨g, 0, none⟩ : Addr).add j) = some v := by
  rw [add_zero_block, cell_of_row w g j _ _ _ h]
  have hj := (List.getElem?_eq_some_iff.1 hv).1
  simp only [List.length_map, List.length_take] at hj
  rw [← hv]
  simp [List.getElem?_map, List.getElem?_take, show j < m by omega]
theorem ints_one (xs : List Int) : ∀ v ∈ xs.map (Value.int .i64), v.oneCell' = true := by
  intro v hv
  obtain ⟨x, _, rfl⟩ := List.mem_map.1 hv
  rfl

theorem made_zeros (N : Nat) : madeCells #[.int .i64 0] N = ((List.replicate N (0 : Int)).map (Value.int .i64)).toArray := by
  apply Array.ext
  · simp [size_madeCells]
  · intro i h1 h2
    simp [madeCells, Nat.mod_one]
theorem made_row (w : World) (xs : List Int) (k N : Nat) (h : (rep xs k).length = N) : (w.alloc (.cells (madeCells #[.int .i64 0] N) 3)).heap[w.heap.size]? = some (.cells ((repZ xs k 0).map (Value.int .i64)).toArray 3 (0, 0)) := by
  rw [repZ_zero, h, made_zeros]
  exact heap_alloc_new w _
theorem IL.cells_ {w : World} {A : Option Addr} {n : Nat} {xs : List Int} (h : IL w A n xs) (h0 : 0 < n) : ∃ ad, A = some ad ∧ ∀ j v, (xs.map (Value.int .i64))[j]? = some v → w.cell? (ad.add j) = some v := by
  obtain ⟨ad, e, _, hc⟩ := h.mem h0
  refine ⟨ad, e, fun j v hv => ?_⟩
  have hj := (List.getElem?_eq_some_iff.1 hv).1
  have hl := h.len
  simp only [List.length_map] at hj
  rw [hc j (by omega), ← hv, List.getElem?_map, List.getElem?_eq_getElem hj]
  simp [List.getD, List.getElem?_eq_getElem hj]

end Go.Proofs.Ytldfnfhommbokaa
/- slices.Delete of two elements of a slice that the call owns. -/
namespace Go.Proofs.Ytldfnfhommbokaa
set_option linter.unusedVariables false
set_option linter.unusedSimpArgs false
open Go.RowKit

/-- The list without its elements i and i + 1. -/
def without2 (xs : List Int) (i : Nat) : List Int := xs.take i ++ xs.drop (i + 2)
theorem without2_length {xs : List Int} {i : Nat} (h : i + 2 ≤ xs.length) : (without2 xs i).length = xs.length - 2 := by simp [without2]; omega
theorem deleted2 {xs : List Int} {n i : Nat} (hl : xs.length = n) (hi : i + 2 ≤ n) : (((setMany xs i (xs.drop (i + 2))).set (n - 2) 0).set (n - 2 + 1) 0).take (n - 2) = without2 xs i := by
  have hx : (setMany xs i (xs.drop (i + 2))).length = n := by rw [setMany_length, hl]
  apply List.ext_getElem?
  intro j
  by_cases hj : j < n - 2
  · rw [List.getElem?_take, if_pos hj, List.getElem?_set, if_neg (by omega), List.getElem?_set, if_neg (by omega)]
    have h1 := setMany_getD (xs.drop (i + 2)) xs i j (by simp; omega)
    have h2 : ((setMany xs i (xs.drop (i + 2)))[j]?) = some ((setMany xs i (xs.drop (i + 2))).getD j 0) := by
      simp [List.getD, List.getElem?_eq_getElem (show j < (setMany xs i (xs.drop (i + 2))).length by omega)]
    rw [h2, h1]
    have h3 : (without2 xs i)[j]? = some ((without2 xs i).getD j 0) := by
      simp [List.getD, List.getElem?_eq_getElem (show j < (without2 xs i).length by rw [without2_length (by omega)]; omega)]
    rw [h3]
    congr 1
    by_cases hji : j < i
    · rw [if_neg (by omega)]
      simp only [without2, List.getD, List.getElem?_append, List.length_take, List.getElem?_take]
      rw [if_pos (by omega), if_pos hji]
    · rw [if_pos (by simp; omega)]
      simp only [without2, List.getD, List.getElem?_append, List.length_take, List.getElem?_drop]
      rw [if_neg (by omega), show min i xs.length = i from by omega]
  · rw [List.getElem?_eq_none (by simp; omega), List.getElem?_eq_none (by rw [without2_length (by omega)]; omega)]

theorem run_clear_two (w : World) (ty : TypeId) (b o cap : Nat) {v v' : Value} (hc : w.cell? ⟨b, o, none⟩ = some v) (hf : w.frozen? ⟨b, o, none⟩ = false) (hc' : (w.setCell ⟨b, o, none⟩ (.int .i64 0)).cell? ⟨b, o + 1, none⟩ = some v') (hf' : (w.setCell ⟨b, o, none⟩ (.int .i64 0)).frozen? ⟨b, o + 1, none⟩ = false) :
    (Builtin.clear_ #[22] ty #[.slice (some ⟨b, o, none⟩) 2 cap]).run Try.prog w = .ok (.tuple #[]) ((w.setCell ⟨b, o, none⟩ (.int .i64 0)).setCell ⟨b, o + 1, none⟩ (.int .i64 0)) := by
  obtain ⟨i0, hi0, hz0, hz1, hz2⟩ := info_parts int_info
  have e : (⟨b, o, none⟩ : Addr).add 1 = ⟨b, o + 1, none⟩ := by simp [Addr.add]
  simp [Builtin.clear_, run_underlying Try.underlying22, zeroValue, typeInfo, hi0, hz0, storeCells, Builtin.zeroCells, go_sem, hc, hf, e, hc', hf']
theorem run_clear_tail2 (w : World) (ty : TypeId) {base g n c i m d : Nat} {xs : List Int} (h : OwnI w base (some ⟨g, 0, none⟩) n c xs) (hi : i + 2 = n) (hm : m = 2) :
    (Builtin.clear_ #[22] ty #[.slice (some ⟨g, i, none⟩) m d]).run Try.prog w = .ok (.tuple #[]) ((w.setCell ⟨g, i, none⟩ (.int .i64 0)).setCell ⟨g, i + 1, none⟩ (.int .i64 0)) := by
  subst hm
  exact run_clear_two w ty g i d (h.cell (by omega)) (h.frozen i) ((h.set_ i 0).cell (by omega)) ((h.set_ i 0).frozen (i + 1))

end Go.Proofs.Ytldfnfhommbokaa
/- timbref1.Short: the reduced form. -/
namespace Go.Proofs.Ytldfnfhommbokaa
set_option linter.unusedVariables false
set_option linter.unusedSimpArgs false
open Go.RowKit

/-- The word, reduced from letter k on. -/
def shK (xs : List Int) (k : Nat) : List Int := xs.take k ++ nf (xs.drop k)
theorem shK_succ {xs : List Int} {i : Nat} (h : i < xs.length) : shK xs (i + 1) = xs.take i ++ xs.getD i 0 :: nf (xs.drop (i + 1)) := by
  unfold shK
  rw [List.take_succ_eq_append_getElem h, List.append_assoc]
  simp [List.getD, List.getElem?_eq_getElem h]
theorem shK_cns {xs : List Int} {i : Nat} (h : i < xs.length) : shK xs i = xs.take i ++ cns (xs.getD i 0) (nf (xs.drop (i + 1))) := by
  unfold shK
  rw [List.drop_eq_getElem_cons h]
  rw [show xs.getD i 0 = xs[i] by simp [List.getD, List.getElem?_eq_getElem h]]
  rfl
theorem getD_mid (a : List Int) (x : Int) (t : List Int) : (a ++ x :: t).getD a.length 0 = x := by simp [List.getD]
theorem getD_mid2 (a : List Int) (x y : Int) (t : List Int) : (a ++ x :: y :: t).getD (a.length + 1) 0 = y := by
  simp only [List.getD]
  rw [List.getElem?_append_right (by omega)]
  simp
theorem without2_mid (a : List Int) (x y : Int) (t : List Int) : without2 (a ++ x :: y :: t) a.length = a ++ t := by
  unfold without2
  rw [List.take_left, List.drop_append, List.drop_of_length_le (by omega), show a.length + 2 - a.length = 2 by omega]
  simp

end Go.Proofs.Ytldfnfhommbokaa
/- timbref1.Core: the cyclically reduced part. -/
namespace Go.Proofs.Ytldfnfhommbokaa
set_option linter.unusedVariables false
set_option linter.unusedSimpArgs false
open Go.RowKit

theorem coreN_fuel : ∀ (k n : Nat) (w : List Int), w.length ≤ k → w.length ≤ n → coreN n w = core w
  | 0, n, w, hk, h => by
    have : w = [] := List.eq_nil_of_length_eq_zero (by omega)
    subst this
    cases n with
    | zero => rfl
    | succ n => simp [core, coreN]
  | k + 1, n, w, hk, h => by
    by_cases hc : 1 < w.length ∧ w.getD 0 0 = -w.getD (w.length - 1) 0
    · have hl := inner_length hc.1
      obtain ⟨n', rfl⟩ : ∃ n', n = n' + 1 := ⟨n - 1, by omega⟩
      obtain ⟨m, hm⟩ : ∃ m, w.length = m + 1 := ⟨w.length - 1, by omega⟩
      unfold core
      rw [hm]
      simp only [coreN]
      rw [if_pos hc, if_pos hc, coreN_fuel k n' _ (by omega) (by omega), coreN_fuel k m _ (by omega) (by omega)]
    · have h1 : ∀ n, coreN n w = (w, []) := fun n => by
        cases n with
        | zero => rfl
        | succ n => simp only [coreN]; rw [if_neg hc]
      unfold core
      rw [h1, h1]
theorem core_step {w : List Int} (h1 : 1 < w.length) (h2 : w.getD 0 0 = -w.getD (w.length - 1) 0) : core w = ((core w.tail.dropLast).1, w.getD 0 0 :: (core w.tail.dropLast).2) := by
  have hl := inner_length h1
  obtain ⟨m, hm⟩ : ∃ m, w.length = m + 1 := ⟨w.length - 1, by omega⟩
  show coreN w.length w = _
  rw [hm]
  simp only [coreN]
  rw [if_pos ⟨h1, h2⟩, coreN_fuel _ m _ (Nat.le_refl _) (by omega)]
theorem core_stop {w : List Int} (h : ¬ (1 < w.length ∧ w.getD 0 0 = -w.getD (w.length - 1) 0)) : core w = (w, []) := by
  show coreN w.length w = _
  cases w.length with
  | zero => rfl
  | succ n => simp only [coreN]; rw [if_neg h]
theorem OwnI.capMax {w : World} {base n c : Nat} {A : Option Addr} {xs : List Int} (h : OwnI w base A n c xs) : c ≤ 9223372036854775807 := by
  rcases h.own.2 with ⟨hv, _⟩ | ⟨g', cap, cur, hv, _, _, _, hcm, _⟩
  · simp only [Value.slice.injEq] at hv
    omega
  · simp only [Value.slice.injEq, true_and] at hv
    obtain ⟨_, _, rfl⟩ := hv
    unfold maxLen at hcm
    exact hcm
theorem IL.mid {w : World} {ad : Addr} {n k m : Nat} {xs : List Int} (h : IL w (some ad) n xs) (hk : k + m ≤ n) : IL w (some (ad.add k)) m ((xs.drop k).take m) := by
  have hl := h.len
  refine ⟨by simp; omega, by have := h.small; omega, fun h0 => ?_⟩
  obtain ⟨ad', e, hlt, hc⟩ := h.mem (by omega)
  injection e with e
  subst e
  refine ⟨ad.add k, rfl, by rw [block_of_add]; exact hlt, fun j hj => ?_⟩
  rw [add_of_add, hc (k + j) (by omega)]
  simp [List.getD, List.getElem?_take, List.getElem?_drop, hj]
theorem inner_eq {w : List Int} (h : 1 < w.length) : w.tail.dropLast = (w.drop 1).take (w.length - 2) := by
  rw [List.dropLast_eq_take, List.drop_one, List.length_tail]
  congr 1

end Go.Proofs.Ytldfnfhommbokaa
/- slices.Grow of nil; slices.Concat. -/
namespace Go.Proofs.Ytldfnfhommbokaa
set_option linter.unusedVariables false
set_option linter.unusedSimpArgs false
open Go.RowKit

theorem run_append_zeros (w : World) (ty : TypeId) (n : Nat) (h0 : 0 < n) (hn : n ≤ 1000000) :
    (Builtin.append_ #[22, 3] ty #[.slice none 0 0, .int .i64 n]).run Try.prog w =
      .ok (.slice (some ⟨w.heap.size, 0, none⟩) n (grownCap w n 0 3)) (w.drew.alloc (.cells (Builtin.zeroCells #[.int .i64 0] n ++ Builtin.zeroCells #[.int .i64 0] (grownCap w n 0 3 - n)) 3)) := by
  obtain ⟨i0, hi0, hz0, hz1, hz2⟩ := info_parts int_info
  have hn' : n ≠ 0 := by omega
  have hwr : IntKind.i64.wrap (n : Int) = n := by rw [IntKind.wrap_i64]; omega
  have h63' : ¬ (9223372036854775807 < (n : Int)) := by omega
  have hneg : ¬ ((n : Int) < 0) := by omega
  have h48b : ¬ (281474976710656 < (n : Int) * 8) := by omega
  have hint : ∀ w : World, (asInt (.int .i64 (n : Int))).run Try.prog w = .ok (n : Int) w := fun w => rfl
  have h48' : ¬ (281474976710656 < Builtin.nextslicecap n 0 * 8) := by rw [nextslicecap_zero h0]; omega
  have hnp : ¬ ((n : Int) ≤ 0) := by omega
  simp [Builtin.append_, run_underlying Try.underlying22, run_underlying Try.underlying3, sizeOf, typeInfo, zeroValue, hi0, hz0, hz1, hz2, hint, hwr, hneg, h48b, hn', h63', h48', Question.forced, run_firstCells_none, newRow, grownCap, Value.cells]

theorem wpList_append_zeros {ops : Array Oper} {rest : List Oper} {o : Oper} {a : Act} {w : World} {Q : Exit → Act → World → Prop} (hgd : o.guard = none) (s x : Operand)
    (ho : o.op = .call { callee := .builtin .append, args := #[s, x], argTypes := #[22, 3] }) (n : Nat) (h0 : 0 < n) (hn : n ≤ 1000000) (hs : a.eval s = .slice none 0 0) (hx : a.eval x = .int .i64 n)
    (h : wpList Try.prog ops Q rest (a.put o.dst (.slice (some ⟨w.heap.size, 0, none⟩) n (grownCap w n 0 3))) (w.drew.alloc (.cells (Builtin.zeroCells #[.int .i64 0] n ++ Builtin.zeroCells #[.int .i64 0] (grownCap w n 0 3 - n)) 3))) : wpList Try.prog ops Q (o :: rest) a w :=
  wpList_plain hgd fun _ hK => by
    unfold Oper.wp execOp
    simp only [ho, resolve, invoke, builtin, Sem.run_bind, Sem.run_pure, Result.andThen_ok, List.map_toArray, List.map_cons, List.map_nil, hs, hx, run_append_zeros w o.type n h0 hn]
    exact hK _ _ h
theorem zeroCells_size (n : Nat) : (Builtin.zeroCells #[.int .i64 0] n).size = n := by simp [Builtin.zeroCells]
set_option maxHeartbeats 1000000 in
theorem grow_any (n : Nat) (w : World) (hn : n ≤ 1000000) :
    Calls Try.prog 53 #[.slice none 0 0, .int .i64 n] w (GivesOwn w []) := by
  rcases Nat.eq_zero_or_pos n with h0 | h0
  · subst h0
    go_enter Try.func53, Try.ntmps53
    go_wp2
    go_ret
    exact ⟨none, 0, 0, rfl, OwnI.nil_ _ _, Below.refl _ _⟩
  · go_enter Try.func53, Try.ntmps53
    go_wp2_with (at_builtin; refine wpList_append_zeros rfl (.tmp 20) (.tmp 21) rfl n h0 hn rfl rfl ?_)
    go_ret
    have hge := grownCap_ge w n 0 3
    have hle := grownCap_le_maxLen w n 0 3 (by unfold maxLen; omega)
    refine ⟨some ⟨w.heap.size, 0, none⟩, 0, grownCap w n 0 3, rfl, ⟨⟨rfl, .inr ⟨w.heap.size, _, _, rfl, Nat.le_refl _, heap_alloc_new w.drew _, by omega, hle, ?_, ?_⟩⟩, by omega⟩, ((Below.refl _ _).drew).alloc (Nat.le_refl _) _⟩
    · simp only [Array.size_append, zeroCells_size]
      omega
    · simp

set_option maxRecDepth 100000 in
set_option maxHeartbeats 1000000 in
theorem concat_any (A : Option Addr) (l c : Nat) (xss : List (List Int)) (w : World) (ha : ILL w A l xss) (hs : xss.flatten.length ≤ 1000000) :
    Calls Try.prog 34 #[.slice A l c] w (GivesOwn w xss.flatten) := by
  have hl := ha.len
  have hls := ha.small
  have HA := hide ha
  have HL := hide hl
  have HFL := hide (flatten_take_le xss)
  obtain ⟨i0, hi0, hz0, hz1, hz2⟩ := info_parts int_info
  have HI0 := hide hi0
  have HZ0 := hide hz0
  have HZ1 := hide hz1
  have HZ2 := hide hz2
  clear ha hl hi0 hz0 hz1 hz2
  go_enter Try.func34, Try.ntmps34
  go_wp2_with fail
  go_loop [3, 11] (fun sv iv => ∃ k s : Nat, k ≤ l ∧ iv = .int .i64 k ∧ sv = .int .i64 s ∧ s ≤ 1000000 ∧ Hid (s = (xss.take k).flatten.length)) (fun _ iv => l - (intOf iv).toNat)
  case atStart => exact ⟨0, 0, Nat.zero_le _, rfl, rfl, by omega, by rw [List.take_zero]; exact rfl⟩
  case round =>
    obtain ⟨k, s, hk, rfl, rfl, hs1, HS⟩ := hrel
    by_cases hlt : k < l
    · obtain ⟨ad, B, m, d, rfl, hcl, hil⟩ := HA.out.at_ hlt
      have hkx : k < xss.length := by rw [HL.out]; exact hlt
      have hm := hil.len
      have h2 := HFL.out (k + 1)
      have h3 := congrArg List.length (sum_take hkx)
      rw [List.length_append, hm, ← HS.out] at h3
      rw [h3] at h2
      have hsm : s + m ≤ 1000000 := by omega
      have HN : Hid (s + m = (xss.take (k + 1)).flatten.length) := hide h3.symm
      clear hil hm h2 h3
      go_wp2
      go_round
      case rel => exact ⟨k + 1, s + m, by omega, by go_num, by go_num, hsm, HN.out⟩
      case measure => simp [intOf]; omega
    · have HE : Hid (s = xss.flatten.length) := hide (by rw [HS.out, List.take_of_length_le (by rw [HL.out]; omega)])
      clear HS
      go_wp2_with fail
      refine (grow_any s w hs1).mono ?_
      rintro e w1 ⟨A1, n1, c1, rfl, ho1, hb1⟩
      have hn1 : n1 = 0 := by have := ho1.len; simpa using this.symm
      subst hn1
      go_wp2_with fail
      go_loopw [6, 27] (fun ov iv wr => ∃ (k m c2 : Nat) (A2 : Option Addr), k ≤ l ∧ iv = .int .i64 k ∧ ov = .slice A2 m c2 ∧ OwnI wr w.heap.size A2 m c2 (xss.take k).flatten ∧ Below w.heap.size w wr) (fun _ iv _ => l - (intOf iv).toNat)
      case atStart => exact ⟨0, 0, c1, A1, Nat.zero_le _, rfl, rfl, by rw [List.take_zero]; exact ho1, hb1⟩
      case round =>
        clear ho1 hb1
        obtain ⟨k, m, c2, A2, hk, rfl, rfl, ho, hb⟩ := hrel
        by_cases hlt : k < l
        · obtain ⟨ad, B, m2, d, rfl, hcl, hil⟩ := (HA.out.below hb).at_ hlt
          have hkx : k < xss.length := by rw [HL.out]; exact hlt
          have hm := hil.len
          have hml := ho.len
          have h2 := HFL.out (k + 1)
          have h3 := congrArg List.length (sum_take hkx)
          rw [List.length_append, hm, hml] at h3
          rw [h3] at h2
          have hsm : m + m2 ≤ 1000000 := by omega
          have HT := hide (sum_take hkx)
          have HIL := hide hil
          have HO := hide ho
          have HB := hide hb
          clear hil hm hml h2 h3 ho hb
          go_wp2_with (at_builtin; refine wpList_append_int _ rfl (.tmp 31) (.tmp 32) 22 rfl w.heap.size i0 Try.underlying22 HI0.out HZ0.out HZ1.out HZ2.out A2 m c2 _ rfl HO.out B m2 d _ rfl HIL.out (by omega) HB.out.size ?_; intro A8 c8 w8 hap)
          have hN := hap.own
          rw [← HT.out] at hN
          have hb8 := HB.out.grown hap.grown HB.out.size (fun j hj => (HO.out.lt j (by rw [ownBlock_len A2 m (m + m2) c2 c2]; exact hj)).1)
          clear hap
          go_roundw
          case rel => exact ⟨k + 1, m + m2, c8, A8, by omega, by go_num, rfl, hN, hb8⟩
          case measure => simp [intOf]; omega
        · have HO : Hid (OwnI wr w.heap.size A2 m c2 xss.flatten) := by
            rw [List.take_of_length_le (by rw [HL.out]; omega)] at ho
            exact ho
          go_wp2
          go_ret
          exact ⟨A2, m, c2, rfl, HO.out, hb⟩
end Go.Proofs.Ytldfnfhommbokaa
/- timbref1.Rooted: the root of a word. -/
namespace Go.Proofs.Ytldfnfhommbokaa
set_option linter.unusedVariables false
set_option linter.unusedSimpArgs false
open Go.RowKit

theorem core_ne {w : List Int} (hr : Red w) (hne : w ≠ []) : (core w).1 ≠ [] := by
  intro h
  have h1 := (core_spec w).1
  rw [h, List.append_nil] at h1
  have h2 := nf_of_red hr
  rw [h1, nf_mul_inv] at h2
  exact hne (by rw [h1]; exact h2.symm)
theorem core_len (w : List Int) : (core w).1.length + 2 * (core w).2.length = w.length := by
  have h := congrArg List.length (core_spec w).1
  rw [List.length_append, List.length_append, invw_length] at h
  omega
theorem core_mem2 {w : List Int} {x : Int} (h : x ∈ (core w).2) : x ∈ w := by
  rw [(core_spec w).1]
  exact List.mem_append_left _ (List.mem_append_left _ h)
theorem core_mem1 {w : List Int} {x : Int} (h : x ∈ (core w).1) : x ∈ w := by
  rw [(core_spec w).1]
  exact List.mem_append_left _ (List.mem_append_right _ h)

end Go.Proofs.Ytldfnfhommbokaa
/- timbref1.Conjugates. -/
namespace Go.Proofs.Ytldfnfhommbokaa
set_option linter.unusedVariables false
set_option linter.unusedSimpArgs false
open Go.RowKit

theorem IL.tailA {w : World} {ad : Addr} {n d : Nat} {xs : List Int} (h : IL w (some ad) n xs) (h1 : 1 ≤ n) (hd : n ≤ d) : IL w (if d = 1 then some ad else some (ad.add 1)) (n - 1) (xs.drop 1) := by
  have hl := h.len
  have hm := h.mid (k := 1) (m := n - 1) (by omega)
  rw [List.take_of_length_le (by simp; omega)] at hm
  by_cases hd1 : d = 1
  · rw [if_pos hd1]
    exact ⟨hm.len, hm.small, fun h0 => absurd h0 (by omega)⟩
  · rw [if_neg hd1]
    exact hm
theorem sizeInt (w : World) : (sizeOf 3).run Try.prog w = .ok 1 w := by kernel_rfl

end Go.Proofs.Ytldfnfhommbokaa
/- timbmake.Perm. -/
namespace Go.Proofs.Ytldfnfhommbokaa
set_option linter.unusedVariables false
set_option linter.unusedSimpArgs false
open Go.RowKit

/-- The state of the loop: what is out, what is left. -/
def MpState (n : Nat) (raws : List Int) (os rs : List Nat) : Prop := (os ++ rs).Perm (List.range n) ∧ (raws = [] → os ++ rs = List.range n)

theorem rest_tail {w8 w9 : World} {B5 g5 m c5 i c9 : Nat} {A9 B10 : Option Addr} {xs ys : List Int} (hr : OwnI w8 B5 (some ⟨g5, 0, none⟩) m c5 xs) (hg : g5 < w8.heap.size)
    (h9 : Appended (w8.alloc (.cells #[] 3)).drew w8.heap.size (some ⟨w8.heap.size, 0, none⟩) (0 + i) 0 ys A9 c9 w9) (hi : i + 1 ≤ m)
    (hB : (if c5 = i + 1 then some (⟨g5, 0, none⟩ : Addr) else some ⟨g5, i + 1, none⟩) = B10) : IL w9 B10 (m - (i + 1)) (xs.drop (i + 1)) := by
  have h1 : OwnI w9 B5 (some ⟨g5, 0, none⟩) m c5 xs := (hr.alloc _).drew.kept h9.grown (.inr (by simp [Value.ownBlock]; omega))
  have h2 := h1.il.tail (k := i + 1) (d := c5) hi h1.cap
  rw [Nat.zero_add, hB] at h2
  exact h2

theorem mp_keep {w w8 w9 w10 : World} {k c8 i j c9 c10 : Nat} {A8 A9 A10 : Option Addr} {xs ys ys' : List Int} (hB8 : Below w.heap.size w w8) (ho : OwnI w8 w.heap.size A8 k c8 xs)
    (h9 : Appended (w8.alloc (.cells #[] 3)).drew w8.heap.size (some ⟨w8.heap.size, 0, none⟩) (0 + i) 0 ys A9 c9 w9) (h10 : Appended w9 w8.heap.size A9 j c9 ys' A10 c10 w10) :
    OwnI w10 w.heap.size A8 k c8 xs ∧ Below w.heap.size w w10 ∧ w.heap.size ≤ w8.heap.size ∧ (∀ g, (Value.slice A8 k c8).ownBlock = some g → g < w8.heap.size) := by
  have hs := hB8.size
  have hlt : ∀ g, (Value.slice A8 k c8).ownBlock = some g → g < w8.heap.size := fun g hg => (ho.lt g hg).2
  have hA9 : ∀ g, (Value.slice A9 j c9).ownBlock = some g → w8.heap.size ≤ g := by
    intro g hg
    rcases h9.lies with e | e
    · rw [ownBlock_len A9 j (0 + i) c9 c9, e] at hg
      simp [Value.ownBlock] at hg
      omega
    · rw [ownBlock_len A9 j (0 + i) c9 c9, e] at hg
      simp at hg
      omega
  have o9 : OwnI w9 w.heap.size A8 k c8 xs := (ho.alloc _).drew.kept h9.grown (by
    rcases hb : (Value.slice A8 k c8).ownBlock with _ | g
    · exact .inl rfl
    · refine .inr ?_
      have := hlt g hb
      simp [Value.ownBlock]; omega)
  have o10 : OwnI w10 w.heap.size A8 k c8 xs := o9.kept h10.grown (by
    rcases hb : (Value.slice A8 k c8).ownBlock with _ | g
    · exact .inl rfl
    · refine .inr fun e => ?_
      have := hlt g hb
      have := hA9 g e.symm
      omega)
  have b9 : Below w.heap.size w w9 := ((hB8.alloc hs _).drew).grown h9.grown (by simp; omega) (by intro g hg; simp [Value.ownBlock] at hg; omega)
  have b10 : Below w.heap.size w w10 := b9.grown h10.grown b9.size (fun g hg => by have := hA9 g hg; omega)
  exact ⟨o10, b10, hs, hlt⟩

theorem mp_state {n : Nat} {raws : List Int} {os rs : List Nat} {i q : Nat} (hi : i < rs.length) (hq : rs.getD i 0 = q) (hraw : raws = [] → i = 0) (h : MpState n raws os rs) :
    MpState n raws (os ++ [q]) (rs.take i ++ rs.drop (i + 1)) := by
  subst hq
  refine ⟨perm_take hi h.1, fun hr => ?_⟩
  obtain rfl := hraw hr
  exact range_take hi (h.2 hr)
theorem mp_rest {w : World} {base m i c m2 : Nat} {A : Option Addr} {rs : List Nat} (h : OwnI w base A (0 + i + (m - (i + 1))) c ([] ++ (zs rs).take i ++ (zs rs).drop (i + 1))) (hm2 : m2 = 0 + i + (m - (i + 1))) :
    OwnI w base A m2 c (zs (rs.take i ++ rs.drop (i + 1))) := by
  rw [List.nil_append, zs_take, zs_drop, zs_append] at h
  rw [hm2]
  exact h
theorem mp_out {w : World} {base k c : Nat} {A : Option Addr} {os : List Nat} {q : Nat} (h : OwnI w base A k c (zs os ++ [(q : Int)])) : OwnI w base A k c (zs (os ++ [q])) := by
  have e : zs os ++ [(q : Int)] = zs (os ++ [q]) := by simp [zs]
  rw [← e]
  exact h
/-- What timbmake.Perm gives. -/
def GivesPerm (n : Nat) (raws : List Int) (w : World) (e : Ending) (w' : World) : Prop := ∃ a : List Nat, isP a ∧ a.length = n ∧ (raws = [] → a = List.range n) ∧ GivesOwn w (zs a) e w'

set_option maxHeartbeats 2000000 in
theorem mperm_any (n : Nat) (A : Option Addr) (r c : Nat) (raws : List Int) (w : World) (hr : IL w A r raws) (hn : n ≤ 1000) :
    Calls Try.prog 36 #[.int .i64 n, .slice A r c] w (GivesPerm n raws w) := by
  obtain ⟨i0, hi0, hz0, hz1, hz2⟩ := info_parts int_info
  have hr63 := hr.small
  go_enter Try.func36, Try.ntmps36
  go_wp2_with (at_make; refine wpList_make_full _ rfl _ _ 22 rfl w.heap.size 3 i0 (.int .i64 0) 1 Try.underlying22 hi0 hz0 hz1 .i64 .i64 _ _ n rfl rfl rfl rfl (by rw [hz2]; omega) (by unfold maxLen; omega) (Nat.le_refl _) ?_; intro w1 hown1 hg1)
  have hB1 : Below w.heap.size w w1 := (Below.refl _ _).grown hg1 (Nat.le_refl _) (by intro k hk; cases hk)
  have hw1 := OwnI.zero (z := #[]) hown1 (by omega)
  clear hown1 hg1
  go_loopw [14] (fun i wr => ∃ k : Nat, k ≤ n ∧ i = .int .i64 k ∧ OwnI wr w.heap.size (some ⟨w.heap.size, 0, none⟩) n n (fillN (fun j => (j : Int)) n k) ∧ Below w.heap.size w wr) (fun i _ => n - (intOf i).toNat)
  case atStart => exact ⟨0, Nat.zero_le _, rfl, by rw [fillN_zero]; exact hw1, hB1⟩
  case round =>
    obtain ⟨k, hk, rfl, hown, hnx⟩ := hrel
    clear hw1 hB1
    by_cases hlt : k < n
    · have hcell := hown.cell hlt
      have hfr := hown.frozen k
      have HS := hide (hown.set_ k (k : Int))
      clear hown
      generalize hz : (fillN (fun j => (j : Int)) n k).getD k 0 = z at *
      clear hz
      go_wp2
      go_roundw
      case rel =>
        refine ⟨k + 1, by omega, by go_num, ?_, hnx.setCell (Nat.le_refl _) _⟩
        have := HS.out
        rw [fillN_set (fun j => (j : Int))] at this
        exact this
      case measure => simp [intOf]; omega
    · have HF : Hid (fillN (fun j => (j : Int)) n k = zs (List.range n)) := by
        obtain rfl : k = n := by omega
        exact fillN_full (by simp [zs]) (fun j hj => by rw [zs_getD, range_getD hj])
      rw [HF.out] at hown
      go_wp2
      have hw0 : OwnI wr w.heap.size none 0 0 [] := OwnI.nil_ wr _
      go_loopw [5, 7, 8] (fun rest out kk wr => ∃ (os rs : List Nat) (k m B5 c5 c7 : Nat) (A5 A7 : Option Addr), rest = .slice A5 m c5 ∧ out = .slice A7 k c7 ∧ kk = .int .i64 k ∧ k + m = n ∧
          OwnI wr B5 A5 m c5 (zs rs) ∧ OwnI wr w.heap.size A7 k c7 (zs os) ∧ w.heap.size ≤ B5 ∧ (∀ g, (Value.slice A7 k c7).ownBlock = some g → g < B5) ∧ Hid (MpState n raws os rs) ∧ Below w.heap.size w wr) (fun rest out kk _ => n - (intOf kk).toNat)
      case atStart => exact ⟨[], List.range n, 0, n, w.heap.size, n, 0, _, none, rfl, rfl, rfl, by omega, hown, hw0, Nat.le_refl _, (by intro g hg; cases hg), ⟨by simp, fun _ => by simp⟩, hnx⟩
      case round =>
        clear hown hw0 hnx HF hk hlt
        obtain ⟨os, rs, k2, m, B5, c5, c7, A5, A7, rfl, rfl, rfl, hkm, hrest, hout, hB5, hlies, hst, hnx⟩ := hrel
        by_cases hm : 0 < m
        · obtain ⟨g5, rfl, hg5, hg5l⟩ := hrest.form hm
          have HRL := hide hrest.len
          have HRAW := hide hr.len
          have hraw := hr.below hnx
          by_cases hkr : k2 < r
          · obtain ⟨ad, rfl, hca⟩ := hraw.at_ hkr
            clear hr hraw
            generalize raws.getD k2 0 = x at *
            obtain ⟨i, hi⟩ : ∃ i : Nat, x % (m : Int) = (i : Int) := ⟨(x % (m : Int)).toNat, by have := Int.emod_nonneg x (show (m : Int) ≠ 0 by omega); omega⟩
            have him : i < m := by have := Int.emod_lt_of_pos x (show (0 : Int) < m by omega); omega
            have HC : Hid (∀ w, Calls Try.prog 45 #[.int .i64 x, .int .i64 m] w fun e w' => e = .returned (.int .i64 i) ∧ w = w') := fun w => by
              have := mbelow_any x m w hm (by omega)
              rw [hi] at this
              exact this
            clear hi
            have HK := hide hkm
            clear hkm
            have hic := hrest.cell him
            rw [zs_getD] at hic
            generalize hq : rs.getD i 0 = q at *
            have HQ := hide hq
            clear hq
            have hcap5 := hrest.cap
            go_wp2_with (first | (go_at_call 45; refine (HC.out _).mono ?_; rintro e w' ⟨rfl, rfl⟩) | (at_builtin; refine wpList_append_int _ rfl (.tmp 38) (.tmp 43) 22 rfl w.heap.size i0 Try.underlying22 hi0 hz0 hz1 hz2 A7 _ c7 (zs os) rfl (hout.alloc _) (some ⟨wr.heap.size, 0, none⟩) 1 1 [(q : Int)] rfl (IL.lit wr [(q : Int)] (by simp) rfl rfl) (by omega) (by have := hnx.size; simp; omega) ?_; intro A8 c8 w8 happ))
            have hB8 : Below w.heap.size w w8 := (hnx.alloc hnx.size _).grown happ.grown (by have := hnx.size; simp; omega) (fun g hg => (hout.lt g (by rw [ownBlock_len A7 k2 (k2 + 1) c7 c7]; exact hg)).1)
            have hrest8 : OwnI w8 B5 (some ⟨g5, 0, none⟩) m c5 (zs rs) := (hrest.alloc _).kept happ.grown (.inr (by
              intro he
              have := hlies g5 (by rw [ownBlock_len A7 k2 (k2 + 1) c7 c7]; exact he.symm)
              omega))
            have hm1000 : m ≤ 1000 := by have := HK.out; omega
            have hic5 : i ≤ c5 := by omega
            have hl1 := (hrest8.il.alloc (.cells #[] 3)).drew
            have hpre := hl1.pre (k := i) (by omega)
            have hg58 : g5 < w8.heap.size := (hrest8.lt g5 rfl).2
            have him1 : i + 1 ≤ m := him
            have HR8 := hide hrest8
            have HO8 := hide happ.own
            have hwr : IntKind.i64.wrap ((i : Int) + 1) = (i : Int) + 1 := by rw [IntKind.wrap_i64]; omega
            have hp0 : (0 : Int) ≤ (i : Int) + 1 := by omega
            have hp1 : (i : Int) + 1 ≤ (m : Int) := by omega
            have hp2 : ((i : Int) + 1).toNat = i + 1 := by omega
            obtain ⟨B10, hB10⟩ : ∃ B, (if c5 = i + 1 then some (⟨g5, 0, none⟩ : Addr) else some ⟨g5, i + 1, none⟩) = B := ⟨_, rfl⟩
            have HB10 := hide hB10
            have hl0 : OwnI (w8.alloc (.cells #[] 3)).drew w8.heap.size (some ⟨w8.heap.size, 0, none⟩) 0 0 [] := OwnI.drew (OwnI.lit w8 [] (Nat.le_refl _) (by simp) rfl rfl rfl)
            clear hl1 hrest8 hrest hout hca hic
            go_region_law (first | (refine step_append_int _ rfl (.tmp 45) (.tmp 48) 22 rfl w8.heap.size i0 Try.underlying22 hi0 hz0 hz1 hz2 (some ⟨w8.heap.size, 0, none⟩) 0 0 [] (by simp [Act.eval, Act.put]) hl0 (some ⟨g5, 0, none⟩) i c5 ((zs rs).take i) (by simp [Act.eval, Act.put]) hpre (by omega) (by simp) ?_; intro A9 c9 w9 h9; have hq9 : IL w9 B10 (m - (i + 1)) ((zs rs).drop (i + 1)) := rest_tail HR8.out hg58 h9 him1 HB10.out; have hsz9 : w8.heap.size ≤ w9.heap.size := Nat.le_of_succ_le (by simpa using h9.grown.size)) | (refine step_append_int _ rfl (.tmp 49) (.tmp 53) 22 rfl w8.heap.size i0 Try.underlying22 hi0 hz0 hz1 hz2 A9 (0 + i) c9 ([] ++ (zs rs).take i) (by simp [Act.eval, Act.put]) h9.own B10 (m - (i + 1)) (c5 - (i + 1)) ((zs rs).drop (i + 1)) (by simp [Act.eval, Act.put]) hq9 (by omega) hsz9 ?_; intro A10 c10 w10 h10))
            have HX := hide (mp_keep hB8 HO8.out h9 h10)
            have HY := hide h10.own
            clear h9 h10 hB8 happ hnx
            go_wp2
            go_roundw
            case rel =>
              have hx := HX.out
              have hk := HK.out
              exact ⟨os ++ [q], rs.take i ++ rs.drop (i + 1), k2 + 1, _, _, _, _, _, _, rfl, rfl, by go_num, by omega, mp_rest HY.out (by omega), mp_out hx.1, hx.2.2.1, hx.2.2.2,
                mp_state (by have := HRL.out; rw [zs_length] at this; omega) HQ.out (by intro hr0; have := HRAW.out; rw [hr0] at this; simp at this; omega) hst.out, hx.2.1⟩
            case measure => have := HK.out; simp [intOf]; omega
          · clear hr hraw
            have hkr' : ¬ k2 < r := hkr
            have hk1000 : k2 ≤ 1000 := by omega
            have HK := hide hkm
            clear hkm
            have hic := hrest.cell hm
            rw [zs_getD] at hic
            generalize hq : rs.getD 0 0 = q at *
            have HQ := hide hq
            clear hq
            have hcap5 := hrest.cap
            go_wp2_with ((at_builtin; refine wpList_append_int _ rfl (.tmp 38) (.tmp 43) 22 rfl w.heap.size i0 Try.underlying22 hi0 hz0 hz1 hz2 A7 _ c7 (zs os) rfl (hout.alloc _) (some ⟨wr.heap.size, 0, none⟩) 1 1 [(q : Int)] rfl (IL.lit wr [(q : Int)] (by simp) rfl rfl) (by omega) (by have := hnx.size; simp; omega) ?_; intro A8 c8 w8 happ))
            have hB8 : Below w.heap.size w w8 := (hnx.alloc hnx.size _).grown happ.grown (by have := hnx.size; simp; omega) (fun g hg => (hout.lt g (by rw [ownBlock_len A7 k2 (k2 + 1) c7 c7]; exact hg)).1)
            have hrest8 : OwnI w8 B5 (some ⟨g5, 0, none⟩) m c5 (zs rs) := (hrest.alloc _).kept happ.grown (.inr (by
              intro he
              have := hlies g5 (by rw [ownBlock_len A7 k2 (k2 + 1) c7 c7]; exact he.symm)
              omega))
            have hm1000 : m ≤ 1000 := by have := HK.out; omega
            have hm5 : 1 ≤ c5 := by omega
            have hl1 := (hrest8.il.alloc (.cells #[] 3)).drew
            have hpre := hl1.pre (k := 0) (by omega)
            have hg58 : g5 < w8.heap.size := (hrest8.lt g5 rfl).2
            have hm1 : 0 + 1 ≤ m := hm
            have HR8 := hide hrest8
            have HO8 := hide happ.own
            have hwr : IntKind.i64.wrap 1 = 1 := by decide
            have hp1 : (1 : Int) ≤ (m : Int) := by omega
            obtain ⟨B10, hB10⟩ : ∃ B, (if c5 = 0 + 1 then some (⟨g5, 0, none⟩ : Addr) else some ⟨g5, 0 + 1, none⟩) = B := ⟨_, rfl⟩
            have HB10 := hide hB10
            simp only [Nat.zero_add] at hB10
            have hl0 : OwnI (w8.alloc (.cells #[] 3)).drew w8.heap.size (some ⟨w8.heap.size, 0, none⟩) 0 0 [] := OwnI.drew (OwnI.lit w8 [] (Nat.le_refl _) (by simp) rfl rfl rfl)
            clear hl1 hrest8 hrest hout hic
            go_region_law (first | (refine step_append_int _ rfl (.tmp 45) (.tmp 48) 22 rfl w8.heap.size i0 Try.underlying22 hi0 hz0 hz1 hz2 (some ⟨w8.heap.size, 0, none⟩) 0 0 [] (by simp [Act.eval, Act.put]) hl0 (some ⟨g5, 0, none⟩) 0 c5 ((zs rs).take 0) (by simp [Act.eval, Act.put]) hpre (by omega) (by simp) ?_; intro A9 c9 w9 h9; have hq9 : IL w9 B10 (m - (0 + 1)) ((zs rs).drop (0 + 1)) := rest_tail HR8.out hg58 h9 hm1 HB10.out; have hsz9 : w8.heap.size ≤ w9.heap.size := Nat.le_of_succ_le (by simpa using h9.grown.size)) | (refine step_append_int _ rfl (.tmp 49) (.tmp 53) 22 rfl w8.heap.size i0 Try.underlying22 hi0 hz0 hz1 hz2 A9 (0 + 0) c9 ([] ++ (zs rs).take 0) (by simp [Act.eval, Act.put]) h9.own B10 (m - (0 + 1)) (c5 - (0 + 1)) ((zs rs).drop (0 + 1)) (by simp [Act.eval, Act.put]) hq9 (by omega) hsz9 ?_; intro A10 c10 w10 h10))
            have HX := hide (mp_keep hB8 HO8.out h9 h10)
            have HY := hide h10.own
            clear h9 h10 hB8 happ hnx
            go_wp2
            go_roundw
            case rel =>
              have hx := HX.out
              have hk := HK.out
              exact ⟨os ++ [q], rs.take 0 ++ rs.drop (0 + 1), k2 + 1, _, _, _, _, _, _, rfl, rfl, by go_num, by omega, mp_rest HY.out (by omega), mp_out hx.1, hx.2.2.1, hx.2.2.2,
                mp_state (by have := HRL.out; rw [zs_length] at this; omega) HQ.out (fun _ => rfl) hst.out, hx.2.1⟩
            case measure => have := HK.out; simp [intOf]; omega
        · have HRL := hide hrest.len
          have hm0 : m = 0 := by omega
          subst hm0
          have hkn : k2 = n := by omega
          have HK := hide hkn
          clear hkm hkn hr
          go_wp2
          go_ret
          have hrs : rs = [] := List.eq_nil_of_length_eq_zero (by have := HRL.out; rw [zs_length] at this; exact this)
          subst hrs
          obtain ⟨h1, h2⟩ := hst.out
          rw [List.append_nil] at h1 h2
          exact ⟨os, (isP_of_perm h1).1, (isP_of_perm h1).2, h2, _, _, _, rfl, hout, hnx⟩
end Go.Proofs.Ytldfnfhommbokaa
