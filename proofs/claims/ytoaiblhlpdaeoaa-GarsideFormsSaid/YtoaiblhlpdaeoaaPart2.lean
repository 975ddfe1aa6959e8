/- Several texts in one. -/
import Derived.Test.YtoaiblhlpdaeoaaPart1
import Derived.Test.YtoaiblhlpdaeoaaBase1
import Derived.Laws.CopyOwn
import Derived.Deep.OwnRows
import Derived.Handy
import Derived.Deep.DeepCutAuto
import Derived.Laws.BitsAllLaws
/- timbref1.Opposite: the inverse word. -/
namespace Go.Proofs.Ytoaiblhlpdaeoaa
set_option linter.unusedVariables false
set_option linter.unusedSimpArgs false
open Go.RowKit

/-- The last k letters of the inverse word. -/
def oppK (xs : List Int) (k : Nat) : List Int := (List.range xs.length).map fun p => if xs.length - 1 - p < k then -(xs.getD (xs.length - 1 - p) 0) else 0
theorem oppK_length (xs : List Int) (k : Nat) : (oppK xs k).length = xs.length := by simp [oppK]
theorem oppK_getD (xs : List Int) (k : Nat) {p : Nat} (hp : p < xs.length) : (oppK xs k).getD p 0 = if xs.length - 1 - p < k then -(xs.getD (xs.length - 1 - p) 0) else 0 := by
  simp [oppK, List.getD, hp]
theorem listI_ext2 {a b : List Int} (hl : a.length = b.length) (h : ∀ i, i < a.length → a.getD i 0 = b.getD i 0) : a = b := by
  refine List.ext_getElem hl fun i h1 h2 => ?_
  have := h i h1
  simpa [List.getD, List.getElem?_eq_getElem h1, List.getElem?_eq_getElem h2] using this
theorem oppK_zero (xs : List Int) : oppK xs 0 = List.replicate xs.length 0 := by
  refine listI_ext2 (by simp [oppK]) fun i hi => ?_
  rw [oppK_length] at hi
  rw [oppK_getD xs 0 hi, if_neg (by omega)]
  simp [List.getD, hi]
theorem oppK_set (xs : List Int) {k : Nat} (hk : k < xs.length) : (oppK xs k).set (xs.length - 1 - k) (-(xs.getD k 0)) = oppK xs (k + 1) := by
  refine listI_ext2 (by simp [oppK]) fun i hi => ?_
  rw [List.length_set, oppK_length] at hi
  rw [oppK_getD xs (k + 1) hi]
  have hs : ((oppK xs k).set (xs.length - 1 - k) (-(xs.getD k 0))).getD i 0 = if i = xs.length - 1 - k then -(xs.getD k 0) else (oppK xs k).getD i 0 := by
    simp only [List.getD, List.getElem?_set]
    by_cases e : i = xs.length - 1 - k
    · have : xs.length - 1 - k < (oppK xs k).length := by rw [oppK_length]; omega
      rw [if_pos e.symm, if_pos e, if_pos this]
      rfl
    · rw [if_neg (fun h => e h.symm), if_neg e]
  rw [hs]
  by_cases e : i = xs.length - 1 - k
  · rw [if_pos e, if_pos (by omega), show xs.length - 1 - i = k by omega]
  · rw [if_neg e, oppK_getD xs k hi]
    by_cases h1 : xs.length - 1 - i < k
    · rw [if_pos h1, if_pos (by omega)]
    · rw [if_neg h1, if_neg (by omega)]
theorem oppK_end (xs : List Int) : oppK xs xs.length = invw xs := by
  refine listI_ext2 (by rw [oppK_length, invw_length]) fun i hi => ?_
  rw [oppK_length] at hi
  rw [oppK_getD xs _ hi, if_pos (by omega)]
  unfold invw
  simp only [List.getD]
  rw [List.getElem?_reverse (by simpa using hi), List.length_map, List.getElem?_map, List.getElem?_eq_getElem (show xs.length - 1 - i < xs.length by omega)]
  rfl

set_option maxHeartbeats 1000000 in
theorem opposite_any (A : Option Addr) (n c : Nat) (xs : List Int) (w : World) (ha : IL w A n xs) (hb : ∀ x ∈ xs, -1000 ≤ x ∧ x ≤ 1000) :
    Calls Try.prog 57 #[.slice A n c] w (GivesOwn w (invw xs)) := by
  have hl := ha.len
  have hna := ha.small
  have HA := hide ha
  have HL := hide hl
  have HB := hide hb
  obtain ⟨i0, hi0, hz0, hz1, hz2⟩ := info_parts int_info
  clear ha hl hb
  go_enter Try.func57, Try.ntmps57
  go_wp2_with (at_make; refine wpList_make_full _ rfl _ _ 22 rfl w.heap.size 3 i0 (.int .i64 0) 1 Try.underlying22 hi0 hz0 hz1 .i64 .i64 _ _ n rfl rfl rfl rfl (by rw [hz2]; omega) (by unfold maxLen; omega) (Nat.le_refl _) ?_; intro w2 hown2 hg2)
  have hB2 : Below w.heap.size w w2 := (Below.refl _ _).grown hg2 (Nat.le_refl _) (by intro k hk; cases hk)
  have hw2 := OwnI.zero (z := #[]) hown2 (by omega)
  have HW2 : Hid (OwnI w2 w.heap.size (some ⟨w.heap.size, 0, none⟩) n n (oppK xs 0)) := by rw [oppK_zero, HL.out]; exact hw2
  clear hown2 hg2 hw2
  go_loopw [11] (fun iv wr => ∃ k : Nat, k ≤ n ∧ iv = .int .i64 k ∧ OwnI wr w.heap.size (some ⟨w.heap.size, 0, none⟩) n n (oppK xs k) ∧ Below w.heap.size w wr) (fun iv _ => n - (intOf iv).toNat)
  case atStart => exact ⟨0, Nat.zero_le _, rfl, HW2.out, hB2⟩
  case round =>
    clear HW2 hB2
    obtain ⟨k, hk, rfl, ho, hb⟩ := hrel
    by_cases hlt : k < n
    · obtain ⟨ad, rfl, hcl⟩ := (HA.out.below hb).at_ hlt
      have hkl : k < xs.length := by rw [HL.out]; exact hlt
      have hm : xs.getD k 0 ∈ xs := by
        rw [show xs.getD k 0 = xs[k] by simp [List.getD, List.getElem?_eq_getElem hkl]]
        exact List.getElem_mem _
      obtain ⟨hx0, hx1⟩ := HB.out _ hm
      have hp : n - 1 - k < n := by omega
      have hcell := ho.cell hp
      have hfr := ho.frozen (n - 1 - k)
      have hN := ho.set_ (n - 1 - k) (-(xs.getD k 0))
      have hset := oppK_set xs hkl
      rw [HL.out] at hset
      rw [hset] at hN
      have HN := hide hN
      have HB2 := hide (hb.setCell (p := ⟨w.heap.size, n - 1 - k, none⟩) (Nat.le_refl _) (.int .i64 (-(xs.getD k 0))))
      obtain ⟨p, hp'⟩ : ∃ p, n - 1 - k = p := ⟨_, rfl⟩
      rw [hp'] at hp hcell hfr HN HB2
      have hidx : (n : Int) - 1 - (k : Int) = (p : Int) := by omega
      generalize xs.getD k 0 = x at *
      clear hm hN hset ho hb hp'
      go_wp2
      go_roundw
      case rel => exact ⟨k + 1, by omega, by go_num, HN.out, HB2.out⟩
      case measure => simp [intOf]; omega
    · have hkn : k = n := by omega
      have HE : Hid (OwnI wr w.heap.size (some ⟨w.heap.size, 0, none⟩) n n (invw xs)) := by
        rw [← oppK_end, HL.out, ← hkn]
        rw [hkn] at ho ⊢
        exact ho
      clear ho hkn
      go_wp2
      go_ret
      exact ⟨_, _, _, rfl, HE.out, hb⟩
end Go.Proofs.Ytoaiblhlpdaeoaa
/- slices.Repeat. -/
namespace Go.Proofs.Ytoaiblhlpdaeoaa
set_option linter.unusedVariables false
set_option linter.unusedSimpArgs false
open Go.RowKit

theorem splice_map {f : Int → Value} (L : List Int) (off : Nat) (cs : List Int) : splice (L.map f) off (cs.map f) = (splice L off cs).map f := by
  simp [splice, List.map_take, List.map_drop]
/-- n elements of the repeated list, then zeros. -/
def repZ (xs : List Int) (k n : Nat) : List Int := (rep xs k).take n ++ List.replicate ((rep xs k).length - n) 0
theorem repZ_length (xs : List Int) (k n : Nat) (h : n ≤ (rep xs k).length) : (repZ xs k n).length = (rep xs k).length := by
  simp [repZ]; omega
theorem repZ_zero (xs : List Int) (k : Nat) : repZ xs k 0 = List.replicate (rep xs k).length 0 := by simp [repZ]
theorem repZ_end (xs : List Int) (k : Nat) : repZ xs k (rep xs k).length = rep xs k := by simp [repZ]
theorem repZ_first (xs : List Int) (k : Nat) (hk : 0 < k) : splice (repZ xs k 0) 0 xs = repZ xs k xs.length := by
  obtain ⟨k, rfl⟩ : ∃ j, k = j + 1 := ⟨k - 1, by omega⟩
  simp [splice, repZ, rep_succ]
theorem repZ_step (xs : List Int) (k q m : Nat) (hq : q ≤ k) (hm : q * xs.length + m ≤ (rep xs k).length) (hmq : m ≤ q * xs.length) :
    splice (repZ xs k (q * xs.length)) (q * xs.length) ((rep xs k).take m) = repZ xs k (q * xs.length + m) := by
  have hl := rep_length xs k
  have hlq := rep_length xs q
  have e0 : rep xs k = rep xs q ++ rep xs (k - q) := by rw [← rep_add]; congr 1; omega
  have e0' : rep xs k = rep xs (k - q) ++ rep xs q := by rw [← rep_add]; congr 1; omega
  have hl2 := rep_length xs (k - q)
  have e1 : (rep xs k).take (q * xs.length) = rep xs q := by rw [e0, List.take_append_of_le_length (by omega), List.take_of_length_le (by omega)]
  have hlen : (rep xs k).length = (rep xs q).length + (rep xs (k - q)).length := by
    conv => lhs; rw [e0]
    exact List.length_append
  have e2 : (rep xs k).take (q * xs.length + m) = rep xs q ++ (rep xs k).take m := by
    conv => lhs; rw [e0]
    rw [List.take_append, List.take_of_length_le (by omega)]
    congr 1
    rw [e0', List.take_append_of_le_length (by omega)]
    congr 1
    omega
  unfold repZ
  rw [e1, e2]
  unfold splice
  rw [List.take_append_of_le_length (by omega), List.take_of_length_le (by omega), List.append_assoc]
  congr 1
  congr 1
  rw [List.drop_append, List.drop_of_length_le (by omega), List.nil_append, List.drop_replicate]
  congr 1
  simp only [List.length_take]
  omega
theorem OwnI.ofRow {w : World} {base g n : Nat} {xs : List Int} (hb : base ≤ g) (h : w.heap[g]? = some (.cells (xs.map (Value.int .i64)).toArray 3 (0, 0))) (hn : xs.length = n) (hs : n ≤ 17592186044416) : OwnI w base (some ⟨g, 0, none⟩) n n xs := by
  refine ⟨⟨by simpa using hn, .inr ⟨g, n, _, rfl, hb, h, Nat.le_refl _, by unfold maxLen; omega, ?_, ?_⟩⟩, hs⟩
  · simp [hn]
  · rw [← hn]; exact List.take_of_length_le (by simp)
theorem il_ofRow {w : World} {g : Nat} {xs : List Int} (h : w.heap[g]? = some (.cells (xs.map (Value.int .i64)).toArray 3 (0, 0))) (j : Nat) (v : Value) (m : Nat) (hv : ((xs.take m).map (Value.int .i64))[j]? = some v) : w.cell? ((⟨g, 0, none⟩ : Addr).add j) = some v := by
  rw [add_zero_block, cell_of_row w g j _ _ _ h]
  have hj := (List.getElem?_eq_some_iff.1 hv).1
  simp only [List.length_map, List.length_take] at hj
  rw [← hv]
  simp [List.getElem?_map, List.getElem?_take, show j < m by omega]
theorem ints_one (xs : List Int) : ∀ v ∈ xs.map (Value.int .i64), v.oneCell' = true := by
  intro v hv
  obtain ⟨x, _, rfl⟩ := List.mem_map.1 hv
  rfl

theorem made_zeros (N : Nat) : madeCells #[.int .i64 0] N = ((List.replicate N (0 : Int)).map (Value.int .i64)).toArray := by
  apply Array.ext
  · simp [size_madeCells]
  · intro i h1 h2
    simp [madeCells, Nat.mod_one]
theorem made_row (w : World) (xs : List Int) (k N : Nat) (h : (rep xs k).length = N) : (w.alloc (.cells (madeCells #[.int .i64 0] N) 3)).heap[w.heap.size]? = some (.cells ((repZ xs k 0).map (Value.int .i64)).toArray 3 (0, 0)) := by
  rw [repZ_zero, h, made_zeros]
  exact heap_alloc_new w _
theorem IL.cells_ {w : World} {A : Option Addr} {n : Nat} {xs : List Int} (h : IL w A n xs) (h0 : 0 < n) : ∃ ad, A = some ad ∧ ∀ j v, (xs.map (Value.int .i64))[j]? = some v → w.cell? (ad.add j) = some v := by
  obtain ⟨ad, e, _, hc⟩ := h.mem h0
  refine ⟨ad, e, fun j v hv => ?_⟩
  have hj := (List.getElem?_eq_some_iff.1 hv).1
  have hl := h.len
  simp only [List.length_map] at hj
  rw [hc j (by omega), ← hv, List.getElem?_map, List.getElem?_eq_getElem hj]
  simp [List.getD, List.getElem?_eq_getElem hj]

set_option maxRecDepth 100000 in
set_option maxHeartbeats 2000000 in
theorem repeat_any (A : Option Addr) (l c k : Nat) (xs : List Int) (w : World) (ha : IL w A l xs) (hlp : 0 < l) (hk : 0 < k) (hs : k * l ≤ 1000000) :
    Calls Try.prog 60 #[.slice A l c, .int .i64 k] w (GivesOwn w (rep xs k)) := by
  obtain ⟨N, hN⟩ : ∃ N, k * l = N := ⟨_, rfl⟩
  have hl := ha.len
  have hNl := rep_length xs k
  rw [hl, hN] at hNl
  have hlN : l ≤ N := by rw [← hN]; exact Nat.le_mul_of_pos_left l hk
  have hkN : k ≤ N := by rw [← hN]; exact Nat.le_mul_of_pos_right k hlp
  rw [hN] at hs
  have HN := hide hN
  have HNL := hide hNl
  have HL := hide hl
  have HA := hide ha
  have HM : Hid (∀ w, Calls Try.prog 101 #[.int .u64 l, .int .u64 k] w fun e w' => e = .returned (.tuple #[.int .u64 0, .int .u64 N]) ∧ w = w') := fun w => by
    refine (bits_Mul l k (by omega) (by omega) w).mono ?_
    rintro e w' ⟨rfl, rfl⟩
    have e1 : l * k = N := by rw [Nat.mul_comm]; exact HN.out
    rw [e1, show N / 18446744073709551616 = 0 by omega, show N % 18446744073709551616 = N by omega]
    exact ⟨rfl, rfl⟩
  obtain ⟨i0, hi0, hz0, hz1, hz2⟩ := info_parts int_info
  have h48 : i0.bytes * N ≤ 281474976710656 := by rw [hz2]; omega
  have HI0 := hide hi0
  have HZ0 := hide hz0
  have HZ1 := hide hz1
  have H48 := hide h48
  clear ha hl hNl hN hi0 hz0 hz1 hz2 h48
  go_enter Try.func60, Try.ntmps60
  have hd1 : decide ((k : Int) < 0) = false := by simp
  have hd2 : decide ((9223372036854775807 : Int) < (N : Int)) = false := decide_eq_false (by omega)
  have HMR := hide (made_row w xs k N HNL.out)
  have HAL := hide (HA.out.alloc (.cells (madeCells #[.int .i64 0] N) 3))
  have HRF : Hid (splice ((repZ xs k 0).map (Value.int .i64)) 0 (xs.map (Value.int .i64)) = (repZ xs k l).map (Value.int .i64)) := by
    rw [splice_map, repZ_first xs k hk, HL.out]
    exact rfl
  have HI3 : Hid ((Try.prog.info? 3).map (·.size) = some 1) := by
    rw [HI0.out]
    exact congrArg some HZ1.out
  have HB0 := hide ((Below.refl w.heap.size w).alloc (Nat.le_refl _) (.cells (madeCells #[.int .i64 0] N) 3))
  have HRL : ∀ n, n ≤ N → Hid (((repZ xs k n).map (Value.int .i64)).length = N) := fun n hn => by
    rw [List.length_map, repZ_length xs k n (by rw [HNL.out]; exact hn)]
    exact HNL.out
  have HXL : Hid ((xs.map (Value.int .i64)).length = l) := by rw [List.length_map]; exact HL.out
  go_wp2_with (first | (go_at_call 101; refine (HM.out _).mono ?_; rintro e w' ⟨rfl, rfl⟩) | (at_make; refine wpList_make_row _ rfl _ _ 22 rfl 3 i0 (.int .i64 0) Try.underlying22 HI0.out HZ0.out HZ1.out rfl .i64 .i64 N rfl rfl H48.out (by omega) ?_) | ((with_reducible show wpList _ _ _ (Oper.mk _ (.call { callee := .builtin .copy, args := _, argTypes := _ }) _ _ _ _ :: _) _ _); go_loud (refine wpList_copy_splice rfl (.tmp 31) (.tmp 32) 22 22 rfl 3 Try.underlying22 HI3.out (some ⟨w.heap.size, 0, none⟩) A N N l c rfl rfl w.heap.size 0 ((repZ xs k 0).map (Value.int .i64)) 3 HMR.out (xs.map (Value.int .i64)) (by rw [HXL.out]; exact (Nat.min_eq_left hlN).symm) (fun _ => ⟨rfl, HAL.out.cells_ hlp⟩) (by rw [HXL.out, (HRL 0 (Nat.zero_le _)).out]; omega) (ints_one _) w.heap.size w HB0.out (Nat.le_refl _) ?_; intro w2 hg2 hb2; rw [HRF.out] at hg2; rw [HXL.out])))
  clear HMR HAL HB0 HRF
  go_loopw [8] (fun nv wr => ∃ q n : Nat, Hid (n < N → n = q * l ∧ q ≤ k) ∧ 0 < n ∧ n ≤ N ∧ nv = .int .i64 n ∧ Hid (wr.heap[w.heap.size]? = some (.cells ((repZ xs k n).map (Value.int .i64)).toArray 3 (0, 0))) ∧ Below w.heap.size w wr) (fun nv _ => N - (intOf nv).toNat)
  case atStart => exact ⟨1, l, fun _ => ⟨(Nat.one_mul l).symm, hk⟩, hlp, hlN, rfl, hg2, hb2⟩
  case round =>
    clear hg2 hb2
    obtain ⟨q, n, HQ, hn0, hnN, rfl, HG, hb⟩ := hrel
    by_cases hlt : n < N
    · obtain ⟨m, hm⟩ : ∃ m, min n (N - n) = m := ⟨_, rfl⟩
      have hm1 : 0 < m := by omega
      have hm2 : m ≤ n := by omega
      have hm3 : n + m ≤ N := by omega
      have HN2 : Hid (n + m < N → n + m = (q + q) * l ∧ q + q ≤ k) := fun h => by
        have e : m = n := by omega
        obtain ⟨e1, e2⟩ := HQ.out hlt
        subst e
        refine ⟨by rw [Nat.add_mul, ← e1], ?_⟩
        have h3 : (q + q) * l < k * l := by rw [Nat.add_mul, ← e1, HN.out]; exact h
        exact Nat.le_of_lt (Nat.lt_of_mul_lt_mul_right h3)
      have HS : Hid (splice ((repZ xs k n).map (Value.int .i64)) n (((rep xs k).take m).map (Value.int .i64)) = (repZ xs k (n + m)).map (Value.int .i64)) := by
        obtain ⟨e1, e2⟩ := HQ.out hlt
        have h2 := repZ_step xs k q m e2 (by rw [HL.out, HNL.out, ← e1]; exact hm3) (by rw [HL.out, ← e1]; exact hm2)
        rw [HL.out, ← e1] at h2
        rw [splice_map, h2]
        exact rfl
      have HCL : Hid ((((rep xs k).take m).map (Value.int .i64)).length = m) := by
        rw [List.length_map, List.length_take, HNL.out]
        exact Nat.min_eq_left (by omega)
      have HSRC : Hid (∀ j v, (((rep xs k).take m).map (Value.int .i64))[j]? = some v → wr.cell? ((⟨w.heap.size, 0, none⟩ : Addr).add j) = some v) := by
        intro j v hv
        refine il_ofRow HG.out j v m ?_
        rw [← hv]
        congr 1
        congr 1
        unfold repZ
        rw [List.take_append_of_le_length (by rw [List.length_take, HNL.out]; omega), List.take_take]
        congr 1
        omega
      have HB := hide hb
      have HMM : Hid (m = Nat.min n (N - n)) := hide hm.symm
      have hne : ¬ N = n := by omega
      have hnN2 : (n : Int) ≤ (N : Int) := by omega
      clear hb hm HQ
      go_wp2_with fail
      go_region_law (refine step_copy_splice rfl (.tmp 41) (.tmp 44) 22 22 rfl 3 Try.underlying22 HI3.out (some ⟨w.heap.size, n, none⟩) (some ⟨w.heap.size, 0, none⟩) (N - n) (N - n) n N (by simp [Act.eval, Act.put, hne]) (by simp [Act.eval, Act.put]) w.heap.size n ((repZ xs k n).map (Value.int .i64)) 3 HG.out (((rep xs k).take m).map (Value.int .i64)) (by rw [HCL.out]; exact HMM.out) (fun _ => ⟨rfl, _, rfl, HSRC.out⟩) (by rw [HCL.out, (HRL n hnN).out]; omega) (ints_one _) w.heap.size w HB.out.drew (Nat.le_refl _) ?_; intro w2 hg2 hb2; rw [HS.out] at hg2; rw [HCL.out])
      show Exit.inBlock 1 _ Exit.normal (Act.put (Act.put _ (some 46) _) (some 8) _) _
      simp only [Act.put, List.setIfInBounds_toArray, List.set_cons_zero, List.set_cons_succ]
      go_roundw
      case rel =>
        have hnum : Value.int .i64 (IntKind.i64.wrap ((n : Int) + (m : Int))) = .int .i64 ((n + m : Nat) : Int) := by
          rw [show IntKind.i64.wrap ((n : Int) + (m : Int)) = ((n + m : Nat) : Int) by rw [IntKind.wrap_i64]; omega]
        exact ⟨_, _, _, _, _, _, _, _, _, _, _, _, _, _, ⟨q + q, n + m, HN2.out, by omega, hm3, hnum, hg2, hb2⟩, rfl⟩
      case measure => simp [intOf, IntKind.wrap_i64]; omega
    · have HE : Hid (OwnI wr w.heap.size (some ⟨w.heap.size, 0, none⟩) N N (rep xs k)) := by
        have e : n = N := by omega
        have h2 := HG.out
        rw [e, ← HNL.out, repZ_end] at h2
        exact OwnI.ofRow (Nat.le_refl _) h2 HNL.out (by omega)
      have HB := hide hb
      clear hb HG HQ
      go_wp2_with fail
      go_ret
      exact ⟨_, _, _, rfl, HE.out, HB.out⟩
end Go.Proofs.Ytoaiblhlpdaeoaa
/- What package laurent's functions are to answer. -/
namespace Go.Proofs.Ytoaiblhlpdaeoaa
set_option linter.unusedVariables false
set_option linter.unusedSimpArgs false
open Go.RowKit

/-- The slice lies in memory that w has not. -/
def NewA (w : World) (A : Option Addr) (n : Nat) : Prop := 0 < n → ∀ ad, A = some ad → w.heap.size ≤ ad.block
theorem SL.setCell {w : World} {A : Option Addr} {n c : Nat} {xs : List Int} (h : SL w A n c xs) {b : Nat} (hb : 0 < n → ∀ ad, A = some ad → ad.block ≠ b) (i : Nat) (v : Value) : SL (w.setCell ⟨b, i, none⟩ v) A n c xs :=
  ⟨⟨h.il.len, h.il.small, fun hn => by
    obtain ⟨ad, e, hl, hc⟩ := h.il.mem hn
    refine ⟨ad, e, by simpa using hl, fun j hj => ?_⟩
    rw [← hc j hj]
    exact World.cell?_setCell_other (w := w) (a := ⟨b, i, none⟩) (b := ad.add j) v (by intro e2; exact hb hn ad e (by have := congrArg Addr.block e2; rw [block_of_add] at this; exact this.symm))⟩, h.nil, h.cap⟩
end Go.Proofs.Ytoaiblhlpdaeoaa
/- Sums and products of small polynomials fit. -/
namespace Go.Proofs.Ytoaiblhlpdaeoaa
set_option linter.unusedVariables false
set_option linter.unusedSimpArgs false
open Go.RowKit
namespace LP
/-- A right polynomial. -/
def Rt (x : LP) : Prop := pfl (canon x).1 (canon x).2 = 0
theorem Rt.wf {x : LP} (h : Rt x) : (Lit.int .i64 (canon x).1).wf = true := by
  obtain ⟨_, h1, h2, _⟩ := pfl_zero h
  have h3 : IntKind.i64.min = -9223372036854775808 := by decide
  simp [Lit.wf, h3]
  omega
end LP
end Go.Proofs.Ytoaiblhlpdaeoaa
/- Free derivatives: exponents, the derivative of a word, the rule of a product, and t^e - 1 as a sum of derivatives. -/
namespace Go.Proofs.Ytoaiblhlpdaeoaa
set_option linter.unusedVariables false
set_option linter.unusedSimpArgs false
namespace LP

theorem Sm.term (e c : Int) {l h : Int} {B : Nat} (h1 : l ≤ e) (h2 : e ≤ h) (h3 : c.natAbs ≤ B) : Sm (term e c) l h B :=
  ⟨fun k hk => by
    rw [co_term] at hk
    by_cases he : e = k
    · omega
    · rw [if_neg he] at hk; exact absurd rfl hk,
  fun k => by
    rw [co_term]
    split
    · exact h3
    · exact Nat.zero_le _⟩
theorem Sm.zero {l h : Int} {B : Nat} : Sm 0 l h B := ⟨fun k hk => absurd (co_zero k) hk, fun k => by rw [co_zero]; exact Nat.zero_le _⟩
/-- t - 1. -/
def less : LP := term 1 1 + -1
end LP
end Go.Proofs.Ytoaiblhlpdaeoaa
/- Laurent polynomials as short sums of terms: exponents within E, absolute values of coefficients that add up to at most V. -/
namespace Go.Proofs.Ytoaiblhlpdaeoaa
set_option linter.unusedVariables false
set_option linter.unusedSimpArgs false
namespace LP

def sumA : List Tm → Nat
  | [] => 0
  | p :: l => p.2.natAbs + sumA l
theorem sumA_append : ∀ a b : List Tm, sumA (a ++ b) = sumA a + sumA b
  | [], b => by simp [sumA]
  | p :: a, b => by
    show p.2.natAbs + sumA (a ++ b) = p.2.natAbs + sumA a + sumA b
    rw [sumA_append a b, Nat.add_assoc]
theorem sumA_scale (e c : Int) : ∀ l : List Tm, sumA (scaleT e c l) = c.natAbs * sumA l
  | [] => rfl
  | p :: l => by
    show (c * p.2).natAbs + sumA (scaleT e c l) = c.natAbs * (p.2.natAbs + sumA l)
    rw [sumA_scale e c l, Nat.mul_add, Int.natAbs_mul]
theorem sumA_mul (b : List Tm) : ∀ a : List Tm, sumA (mulT a b) = sumA a * sumA b
  | [] => by
    show 0 = 0 * sumA b
    rw [Nat.zero_mul]
  | p :: a => by
    rw [mulT_cons, sumA_append, sumA_scale, sumA_mul b a]
    show _ = (p.2.natAbs + sumA a) * sumA b
    rw [Nat.add_mul]
theorem coefT_sumA (k : Int) : ∀ l : List Tm, (coefT l k).natAbs ≤ sumA l
  | [] => Nat.le_refl _
  | p :: l => by
    have h := coefT_sumA k l
    show ((if p.1 = k then p.2 else 0) + coefT l k).natAbs ≤ p.2.natAbs + sumA l
    split <;> omega

/-- A short sum of terms. -/
def N1 (x : LP) (E V : Nat) : Prop := ∃ l : List Tm, mk l = x ∧ (∀ p ∈ l, p.1.natAbs ≤ E) ∧ sumA l ≤ V
theorem N1.mono {x : LP} {E V E' V' : Nat} (h : N1 x E V) (h1 : E ≤ E') (h2 : V ≤ V') : N1 x E' V' := by
  obtain ⟨l, e, hk, hv⟩ := h
  exact ⟨l, e, fun p hp => Nat.le_trans (hk p hp) h1, Nat.le_trans hv h2⟩
theorem N1.zero : N1 0 0 0 := ⟨[], rfl, fun p hp => by simp at hp, Nat.le_refl _⟩
theorem N1.term (e c : Int) : N1 (LP.term e c) e.natAbs c.natAbs := ⟨[(e, c)], rfl, fun p hp => by simp at hp; subst hp; exact Nat.le_refl _, by simp [sumA]⟩
theorem N1.one : N1 1 0 1 := N1.term 0 1
theorem N1.add {x y : LP} {E V V' : Nat} (hx : N1 x E V) (hy : N1 y E V') : N1 (x + y) E (V + V') := by
  obtain ⟨a, rfl, h1, h2⟩ := hx
  obtain ⟨b, rfl, h3, h4⟩ := hy
  refine ⟨a ++ b, rfl, fun p hp => ?_, by rw [sumA_append]; omega⟩
  rcases List.mem_append.1 hp with h | h
  · exact h1 p h
  · exact h3 p h
theorem N1.neg {x : LP} {E V : Nat} (hx : N1 x E V) : N1 (-x) E V := by
  obtain ⟨a, rfl, h1, h2⟩ := hx
  refine ⟨scaleT 0 (-1) a, rfl, fun p hp => ?_, by rw [sumA_scale, show (-1 : Int).natAbs = 1 from rfl]; omega⟩
  obtain ⟨q, hq, rfl⟩ := List.mem_map.1 hp
  have := h1 q hq
  show (0 + q.1).natAbs ≤ E
  rw [Int.zero_add]; exact this
theorem N1.mul {x y : LP} {E V E' V' : Nat} (hx : N1 x E V) (hy : N1 y E' V') : N1 (x * y) (E + E') (V * V') := by
  obtain ⟨a, rfl, h1, h2⟩ := hx
  obtain ⟨b, rfl, h3, h4⟩ := hy
  refine ⟨mulT a b, rfl, fun p hp => ?_, by rw [sumA_mul]; exact Nat.mul_le_mul h2 h4⟩
  obtain ⟨q, hq, hp⟩ := List.mem_flatMap.1 hp
  obtain ⟨r, hr, rfl⟩ := List.mem_map.1 hp
  have := h1 q hq
  have := h3 r hr
  show (q.1 + r.1).natAbs ≤ E + E'
  omega
theorem N1.co {x : LP} {E V : Nat} (h : N1 x E V) (k : Int) : (LP.co x k).natAbs ≤ V := by
  obtain ⟨l, rfl, _, hv⟩ := h
  exact Nat.le_trans (coefT_sumA k l) hv
theorem N1.supp {x : LP} {E V : Nat} (h : N1 x E V) {k : Int} (hk : LP.co x k ≠ 0) : k.natAbs ≤ E := by
  obtain ⟨l, rfl, h1, _⟩ := h
  by_cases hm : ∀ p ∈ l, p.1 ≠ k
  · exact absurd (sumT_out k l hm) hk
  · obtain ⟨p, hp⟩ := Classical.not_forall.1 hm
    obtain ⟨hp, e⟩ := Classical.not_imp.1 hp
    have := h1 p hp
    rw [Classical.not_not.1 e] at this
    exact this
theorem N1.sumN {f : Nat → LP} {E V : Nat} : ∀ {n : Nat}, (∀ i, i < n → N1 (f i) E V) → N1 (CR.sumN n f) E (n * V)
  | 0, _ => N1.zero.mono (Nat.zero_le _) (Nat.zero_le _)
  | n + 1, h => by
    rw [CR.sumN_succ, Nat.succ_mul]
    exact (N1.sumN fun i hi => h i (by omega)).add (h n (by omega))
theorem N1.sgR (j : Nat) : N1 (CR.sgR LP j) 0 1 := by
  unfold CR.sgR
  split
  · exact N1.one
  · exact N1.one.neg
def fctP : Nat → Nat
  | 0 => 1
  | n + 1 => (n + 1) * fctP n
theorem N1.detR {E V : Nat} : ∀ {n : Nat} {M : Mtx LP}, (∀ i, i < n → ∀ j, j < n → N1 (M i j) E V) → N1 (Proofs.Ytoaiblhlpdaeoaa.detR n M) (n * E) (fctP n * V ^ n)
  | 0, M, _ => by
    show N1 1 (0 * E) (1 * V ^ 0)
    rw [Nat.zero_mul, Nat.pow_zero]
    exact N1.one
  | n + 1, M, h => by
    have h1 : ∀ j, j < n + 1 → N1 (CR.sgR LP j * (M 0 j * Proofs.Ytoaiblhlpdaeoaa.detR n fun a b => M (a + 1) (CR.skip j b))) ((n + 1) * E) (V * (fctP n * V ^ n)) := fun j hj => by
      have h2 := (N1.sgR j).mul ((h 0 (by omega) j hj).mul (N1.detR (M := fun a b => M (a + 1) (CR.skip j b)) fun i hi k hk => h (i + 1) (by omega) _ (skip_lt hk)))
      refine h2.mono ?_ ?_
      · rw [Nat.succ_mul]; omega
      · rw [Nat.one_mul]; exact Nat.le_refl _
    have h3 := N1.sumN h1
    refine N1.mono (x := CR.sumN (n + 1) _) h3 (Nat.le_refl _) (Nat.le_of_eq ?_)
    show (n + 1) * (V * (fctP n * V ^ n)) = (n + 1) * fctP n * V ^ (n + 1)
    rw [Nat.pow_succ]
    ac_rfl
end LP
end Go.Proofs.Ytoaiblhlpdaeoaa
/- Burau matrices: letters as row operations, the relations of the braid group, row sums, the row 1, t, t^2, .. . -/
namespace Go.Proofs.Ytoaiblhlpdaeoaa
set_option linter.unusedVariables false
set_option linter.unusedSimpArgs false
set_option linter.unusedSectionVars false
open CR

section
variable {R : Type} [CR R]
/-- Equal within n rows and columns. -/
def EqM (n : Nat) (A B : Mtx R) : Prop := ∀ i, i < n → ∀ j, j < n → A i j = B i j
theorem EqM.refl (n : Nat) (A : Mtx R) : EqM n A A := fun _ _ _ _ => rfl
theorem EqM.symm {n : Nat} {A B : Mtx R} (h : EqM n A B) : EqM n B A := fun i hi j hj => (h i hi j hj).symm
theorem EqM.trans {n : Nat} {A B C : Mtx R} (h : EqM n A B) (k : EqM n B C) : EqM n A C := fun i hi j hj => (h i hi j hj).trans (k i hi j hj)
theorem EqM.mul {n : Nat} {A A' B B' : Mtx R} (h : EqM n A A') (k : EqM n B B') : EqM n (mulM n A B) (mulM n A' B') := fun i hi j hj =>
  sumN_congr fun l hl => by rw [h i hi l hl, k l hl j hj]
theorem EqM.one_mul (n : Nat) (A : Mtx R) : EqM n (mulM n oneM A) A := fun i hi j hj => by
  show sumN n (fun k => oneM i k * A k j) = A i j
  rw [sumN_single (k := i) hi (fun k _ hne => by rw [show (oneM : Mtx R) i k = 0 from if_neg (Ne.symm hne), zero_mul]), show (oneM : Mtx R) i i = 1 from if_pos rfl, CR.one_mul]
theorem EqM.mul_one (n : Nat) (A : Mtx R) : EqM n (mulM n A oneM) A := fun i hi j hj => by
  show sumN n (fun k => A i k * oneM k j) = A i j
  rw [sumN_single (k := j) hj (fun k _ hne => by rw [show (oneM : Mtx R) k j = 0 from if_neg hne, mul_zero]), show (oneM : Mtx R) j j = 1 from if_pos rfl, CR.mul_one]

/-- What a positive letter does to rows a - 1 and a. -/
def opP (t : R) (a : Nat) (A : Mtx R) : Mtx R := fun r c => if r + 1 = a then (1 + -t) * A r c + t * A (r + 1) c else if r = a then A (r - 1) c else A r c
def opN (t : R) (a : Nat) (A : Mtx R) : Mtx R := fun r c => if r + 1 = a then A (r + 1) c else if r = a then t * A (r - 1) c + (1 + -t) * A r c else A r c
theorem EqM.opP {n : Nat} {A B : Mtx R} (t : R) {a : Nat} (ha : a < n) (h : EqM n A B) : EqM n (Proofs.Ytoaiblhlpdaeoaa.opP t a A) (Proofs.Ytoaiblhlpdaeoaa.opP t a B) := fun r hr c hc => by
  unfold Proofs.Ytoaiblhlpdaeoaa.opP
  by_cases h1 : r + 1 = a
  · rw [if_pos h1, if_pos h1, h r hr c hc, h (r + 1) (by omega) c hc]
  · rw [if_neg h1, if_neg h1]
    split
    · exact h _ (by omega) c hc
    · exact h r hr c hc
theorem EqM.opN {n : Nat} {A B : Mtx R} (t : R) {a : Nat} (ha : a < n) (h : EqM n A B) : EqM n (Proofs.Ytoaiblhlpdaeoaa.opN t a A) (Proofs.Ytoaiblhlpdaeoaa.opN t a B) := fun r hr c hc => by
  unfold Proofs.Ytoaiblhlpdaeoaa.opN
  by_cases h1 : r + 1 = a
  · rw [if_pos h1, if_pos h1, h (r + 1) (by omega) c hc]
  · rw [if_neg h1, if_neg h1]
    split
    · rw [h r hr c hc, h _ (by omega) c hc]
    · exact h r hr c hc
end

def tT : LP := LP.term 1 1
def tI : LP := LP.term (-1) 1
def opL (x : Int) (A : Mtx LP) : Mtx LP := if 0 < x then opP tT x.natAbs A else opN tI x.natAbs A
/-- Letters of a braid word on n strands. -/
def okB (n : Nat) (w : List Int) : Prop := ∀ x ∈ w, x ≠ 0 ∧ x.natAbs < n
theorem EqM.opL {n : Nat} {A B : Mtx LP} {x : Int} (hx : x.natAbs < n) (h : EqM n A B) : EqM n (Proofs.Ytoaiblhlpdaeoaa.opL x A) (Proofs.Ytoaiblhlpdaeoaa.opL x B) := by
  unfold Proofs.Ytoaiblhlpdaeoaa.opL
  split
  · exact h.opP _ hx
  · exact h.opN _ hx
def opW : List Int → Mtx LP → Mtx LP
  | [], A => A
  | x :: w, A => opL x (opW w A)
/-- Words that are equal by a relation: what they do to all matrices is equal. -/
def RelB (a b : List Int) : Prop := ∀ A : Mtx LP, opW a A = opW b A
theorem RelB.symm {a b : List Int} (h : RelB a b) : RelB b a := fun A => (h A).symm
end Go.Proofs.Ytoaiblhlpdaeoaa
/- Braid words: what is wrong with one, where its strands end. -/
namespace Go.Proofs.Ytoaiblhlpdaeoaa
set_option linter.unusedVariables false
set_option linter.unusedSimpArgs false

def okX (n x : Int) : Bool := decide (x ≠ 0 ∧ x < n ∧ -n < x)
def bfault (n : Int) (w : List Int) : Int := if n < 1 ∨ 6 < n then 1 else if 30 < w.length then 2 else if w.all (okX n) then 0 else 3
theorem bfault_zero {n : Int} {w : List Int} (h : bfault n w = 0) : 1 ≤ n ∧ n ≤ 6 ∧ w.length ≤ 30 ∧ ∀ x ∈ w, x ≠ 0 ∧ x < n ∧ -n < x := by
  unfold bfault at h
  split at h
  · omega
  · next h1 =>
    split at h
    · omega
    · next h2 =>
      split at h
      · next h3 => exact ⟨by omega, by omega, by omega, fun x hx => by simpa [okX] using List.all_eq_true.1 h3 x hx⟩
      · omega
theorem bfault_ok {n : Int} {w : List Int} (h1 : 1 ≤ n) (h6 : n ≤ 6) (h : w.length ≤ 30) (hw : ∀ x ∈ w, x ≠ 0 ∧ x < n ∧ -n < x) : bfault n w = 0 := by
  unfold bfault
  rw [if_neg (by omega), if_neg (by omega), if_pos (List.all_eq_true.2 fun x hx => by simpa [okX] using hw x hx)]
/-- Where a strand goes at a letter. -/
def stepE (at_ : Nat) (x : Int) : Nat := if at_ + 1 = x.natAbs then at_ + 1 else if at_ = x.natAbs then at_ - 1 else at_
def endE (w : List Int) (s : Nat) : Nat := w.foldl stepE s
def endsL (n : Nat) (w : List Int) : List Nat := (List.range n).map (endE w)
theorem endsL_length (n : Nat) (w : List Int) : (endsL n w).length = n := by simp [endsL]
theorem stepE_lt {n at_ : Nat} {x : Int} (hx : x ≠ 0) (h1 : x.natAbs < n) (h : at_ < n) : stepE at_ x < n := by
  unfold stepE
  split
  · omega
  · split <;> omega
theorem endE_append (u v : List Int) (s : Nat) : endE (u ++ v) s = endE v (endE u s) := by unfold endE; rw [List.foldl_append]
theorem endE_snoc (w : List Int) (x : Int) (s : Nat) : endE (w ++ [x]) s = stepE (endE w s) x := by rw [endE_append]; rfl
theorem okB_of {n : Nat} {w : List Int} (h : ∀ x ∈ w, x ≠ 0 ∧ x < (n : Int) ∧ -(n : Int) < x) : okB n w := fun x hx => by have := h x hx; omega
/-- Words that act alike on all strands. -/
def RelE (a b : List Int) : Prop := ∀ s, endE a s = endE b s
theorem RelE.ends {a b : List Int} (h : RelE a b) (n : Nat) (u v : List Int) : endsL n (u ++ a ++ v) = endsL n (u ++ b ++ v) := by
  unfold endsL
  refine List.map_congr_left fun s _ => ?_
  rw [endE_append, endE_append, endE_append, endE_append, h]
theorem stepE_twice {x : Int} (h : x ≠ 0) (s : Nat) : stepE (stepE s x) x = s := by
  unfold stepE
  by_cases h1 : s + 1 = x.natAbs
  · rw [if_pos h1, if_neg (by omega), if_pos (by omega)]; omega
  · rw [if_neg h1]
    by_cases h2 : s = x.natAbs
    · rw [if_pos h2, if_pos (by omega)]; omega
    · rw [if_neg h2, if_neg h1, if_neg h2]
end Go.Proofs.Ytoaiblhlpdaeoaa
/- timbref1.BraidFault, Index, Ends. -/
namespace Go.Proofs.Ytoaiblhlpdaeoaa
set_option linter.unusedVariables false
set_option linter.unusedSimpArgs false
open Go.RowKit

set_option maxHeartbeats 2000000 in
theorem braidFault_any (m : Int) (A : Option Addr) (n c : Nat) (xs : List Int) (w : World) (ha : IL w A n xs) (hm : (Lit.int .i64 m).wf = true) :
    Calls Try.prog 13 #[.int .i64 m, .slice A n c] w fun e w' => e = .returned (.int .i64 (bfault m xs)) ∧ w = w' := by
  have hl := ha.len
  have hns := ha.small
  have HA := hide ha
  have HL := hide hl
  have HM := hide hm
  clear ha hl hm
  by_cases h1 : m < 1
  · have HF : Hid (bfault m xs = 1) := hide (by unfold bfault; rw [if_pos (.inl h1)])
    go_enter Try.func13, Try.ntmps13
    go_wp2
    go_ret
    rw [HF.out]
    exact ⟨rfl, rfl⟩
  by_cases h6 : 6 < m
  · have HF : Hid (bfault m xs = 1) := hide (by unfold bfault; rw [if_pos (.inr h6)])
    go_enter Try.func13, Try.ntmps13
    go_wp2
    go_ret
    rw [HF.out]
    exact ⟨rfl, rfl⟩
  by_cases h30 : 30 < n
  · have HF : Hid (bfault m xs = 2) := hide (by unfold bfault; rw [if_neg (by omega), if_pos (by rw [HL.out]; exact h30)])
    go_enter Try.func13, Try.ntmps13
    go_wp2
    go_ret
    rw [HF.out]
    exact ⟨rfl, rfl⟩
  · have HF : Hid (bfault m xs = if xs.all (okX m) then 0 else 3) := hide (by unfold bfault; rw [if_neg (by omega), if_neg (by rw [HL.out]; exact h30)])
    have hwm : IntKind.i64.wrap (-m) = -m := by rw [IntKind.wrap_i64]; omega
    go_enter Try.func13, Try.ntmps13
    go_wp2
    go_loop [18] (fun iv => ∃ k : Nat, k ≤ n ∧ iv = .int .i64 k ∧ Hid ((xs.take k).all (okX m) = true)) (fun iv => n - (intOf iv).toNat)
    case atStart => exact ⟨0, Nat.zero_le _, rfl, by rw [List.take_zero]; exact rfl⟩
    case round =>
      obtain ⟨k, hk, rfl, HK⟩ := hrel
      by_cases hlt : k < n
      · obtain ⟨ad, rfl, hcl⟩ := HA.out.at_ hlt
        have hkl : k < xs.length := by rw [HL.out]; exact hlt
        have hget : xs.getD k 0 = xs[k] := by simp [List.getD, List.getElem?_eq_getElem hkl]
        have HT : Hid ((xs.take (k + 1)).all (okX m) = ((xs.take k).all (okX m) && okX m (xs.getD k 0))) := hide (by rw [List.take_succ_eq_append_getElem hkl, List.all_append, hget]; simp)
        have HM : Hid (xs.getD k 0 ∈ xs) := hide (by rw [hget]; exact List.getElem_mem _)
        clear hkl hget
        generalize xs.getD k 0 = x at *
        by_cases hok : x ≠ 0 ∧ x < m ∧ -m < x
        · have HN : Hid ((xs.take (k + 1)).all (okX m) = true) := hide (by rw [HT.out, HK.out]; simp [okX, hok])
          obtain ⟨h0, h2, h3⟩ := hok
          have hb : (x == 0) = false := by simpa using h0
          clear h0
          go_wp2
          go_round
          case rel => exact ⟨k + 1, by omega, by go_num, HN.out⟩
          case measure => simp [intOf]; omega
        · have HN : Hid (xs.all (okX m) = false) := hide (by
            rw [Bool.eq_false_iff]
            intro h
            have := List.all_eq_true.1 h x HM.out
            exact hok (by simpa [okX] using this))
          rw [HN.out] at HF
          by_cases h0 : x = 0
          · subst h0
            clear hok
            go_wp2
            go_ret
            rw [HF.out]
            exact ⟨rfl, rfl⟩
          · have hb : (x == 0) = false := by simpa using h0
            by_cases h2 : m ≤ x
            · clear hok h0
              go_wp2
              go_ret
              rw [HF.out]
              exact ⟨rfl, rfl⟩
            · have h3 : x ≤ -m := by
                rcases Int.lt_or_le (-m) x with h | h
                · exact absurd ⟨h0, by omega, h⟩ hok
                · exact h
              clear hok h0
              go_wp2
              go_ret
              rw [HF.out]
              exact ⟨rfl, rfl⟩
      · have HE : Hid (xs.all (okX m) = true) := hide (by
          have := HK.out
          rwa [List.take_of_length_le (by rw [HL.out]; omega)] at this)
        rw [HE.out] at HF
        go_wp2
        go_ret
        rw [HF.out]
        exact ⟨rfl, rfl⟩

set_option maxHeartbeats 1000000 in
theorem index_any_ (x : Int) (w : World) (hx : x.natAbs ≤ 1000000) : Calls Try.prog 99 #[.int .i64 x] w fun e w' => e = .returned (.int .i64 (x.natAbs : Int)) ∧ w = w' := by
  have hw : IntKind.i64.wrap (-x) = -x := by rw [IntKind.wrap_i64]; omega
  by_cases h : 0 ≤ x
  · obtain ⟨a, rfl⟩ : ∃ a : Nat, x = (a : Int) := ⟨x.natAbs, by omega⟩
    rw [Int.natAbs_natCast]
    have hm : max (a : Int) (-(a : Int)) = (a : Int) := by omega
    go_enter Try.func99, Try.ntmps99
    go_wp2
    all_goals first | (exfalso; omega) | (go_ret; exact ⟨rfl, rfl⟩)
  · obtain ⟨a, rfl⟩ : ∃ a : Nat, x = -(a : Int) := ⟨x.natAbs, by omega⟩
    rw [Int.natAbs_neg, Int.natAbs_natCast, Int.neg_neg] at *
    have hm : max (-(a : Int)) (a : Int) = (a : Int) := by omega
    go_enter Try.func99, Try.ntmps99
    go_wp2
    all_goals first | (exfalso; omega) | (go_ret; exact ⟨rfl, rfl⟩)

end Go.Proofs.Ytoaiblhlpdaeoaa
/- slices.Delete of two elements of a slice that the call owns. -/
namespace Go.Proofs.Ytoaiblhlpdaeoaa
set_option linter.unusedVariables false
set_option linter.unusedSimpArgs false
open Go.RowKit

/-- The list without its elements i and i + 1. -/
def without2 (xs : List Int) (i : Nat) : List Int := xs.take i ++ xs.drop (i + 2)
theorem without2_length {xs : List Int} {i : Nat} (h : i + 2 ≤ xs.length) : (without2 xs i).length = xs.length - 2 := by simp [without2]; omega
theorem deleted2 {xs : List Int} {n i : Nat} (hl : xs.length = n) (hi : i + 2 ≤ n) : (((setMany xs i (xs.drop (i + 2))).set (n - 2) 0).set (n - 2 + 1) 0).take (n - 2) = without2 xs i := by
  have hx : (setMany xs i (xs.drop (i + 2))).length = n := by rw [setMany_length, hl]
  apply List.ext_getElem?
  intro j
  by_cases hj : j < n - 2
  · rw [List.getElem?_take, if_pos hj, List.getElem?_set, if_neg (by omega), List.getElem?_set, if_neg (by omega)]
    have h1 := setMany_getD (xs.drop (i + 2)) xs i j (by simp; omega)
    have h2 : ((setMany xs i (xs.drop (i + 2)))[j]?) = some ((setMany xs i (xs.drop (i + 2))).getD j 0) := by
      simp [List.getD, List.getElem?_eq_getElem (show j < (setMany xs i (xs.drop (i + 2))).length by omega)]
    rw [h2, h1]
    have h3 : (without2 xs i)[j]? = some ((without2 xs i).getD j 0) := by
      simp [List.getD, List.getElem?_eq_getElem (show j < (without2 xs i).length by rw [without2_length (by omega)]; omega)]
    rw [h3]
    congr 1
    by_cases hji : j < i
    · rw [if_neg (by omega)]
      simp only [without2, List.getD, List.getElem?_append, List.length_take, List.getElem?_take]
      rw [if_pos (by omega), if_pos hji]
    · rw [if_pos (by simp; omega)]
      simp only [without2, List.getD, List.getElem?_append, List.length_take, List.getElem?_drop]
      rw [if_neg (by omega), show min i xs.length = i from by omega]
  · rw [List.getElem?_eq_none (by simp; omega), List.getElem?_eq_none (by rw [without2_length (by omega)]; omega)]

theorem run_clear_two (w : World) (ty : TypeId) (b o cap : Nat) {v v' : Value} (hc : w.cell? ⟨b, o, none⟩ = some v) (hf : w.frozen? ⟨b, o, none⟩ = false) (hc' : (w.setCell ⟨b, o, none⟩ (.int .i64 0)).cell? ⟨b, o + 1, none⟩ = some v') (hf' : (w.setCell ⟨b, o, none⟩ (.int .i64 0)).frozen? ⟨b, o + 1, none⟩ = false) :
    (Builtin.clear_ #[22] ty #[.slice (some ⟨b, o, none⟩) 2 cap]).run Try.prog w = .ok (.tuple #[]) ((w.setCell ⟨b, o, none⟩ (.int .i64 0)).setCell ⟨b, o + 1, none⟩ (.int .i64 0)) := by
  obtain ⟨i0, hi0, hz0, hz1, hz2⟩ := info_parts int_info
  have e : (⟨b, o, none⟩ : Addr).add 1 = ⟨b, o + 1, none⟩ := by simp [Addr.add]
  simp [Builtin.clear_, run_underlying Try.underlying22, zeroValue, typeInfo, hi0, hz0, storeCells, Builtin.zeroCells, go_sem, hc, hf, e, hc', hf']
theorem run_clear_tail2 (w : World) (ty : TypeId) {base g n c i m d : Nat} {xs : List Int} (h : OwnI w base (some ⟨g, 0, none⟩) n c xs) (hi : i + 2 = n) (hm : m = 2) :
    (Builtin.clear_ #[22] ty #[.slice (some ⟨g, i, none⟩) m d]).run Try.prog w = .ok (.tuple #[]) ((w.setCell ⟨g, i, none⟩ (.int .i64 0)).setCell ⟨g, i + 1, none⟩ (.int .i64 0)) := by
  subst hm
  exact run_clear_two w ty g i d (h.cell (by omega)) (h.frozen i) ((h.set_ i 0).cell (by omega)) ((h.set_ i 0).frozen (i + 1))

set_option maxHeartbeats 1600000 in
set_option maxRecDepth 1000000 in
theorem delete2_any (base g n c i : Nat) (xs : List Int) (w : World) (h : OwnI w base (some ⟨g, 0, none⟩) n c xs) (hi : i + 2 ≤ n) :
    Calls Try.prog 114 #[.slice (some ⟨g, 0, none⟩) n c, .int .i64 i, .int .i64 ((i : Int) + 2)] w fun e w' => e = .returned (.slice (some ⟨g, 0, none⟩) (n - 2) c) ∧ OwnI w' base (some ⟨g, 0, none⟩) (n - 2) c (without2 xs i) ∧ w.grownBy w' (some g) := by
  obtain ⟨i0, hi0, hz0, hz1, hz2⟩ := info_parts int_info
  have hcap := h.cap
  have hsm := h.small
  have HL := hide h.len
  have hcm : c ≤ 9223372036854775807 := by
    rcases h.own.2 with ⟨hv, _⟩ | ⟨g', cap, cur, hv, _, _, _, hcm, _⟩
    · cases hv
    · simp only [Value.slice.injEq, true_and] at hv
      obtain ⟨_, rfl⟩ := hv
      unfold maxLen at hcm
      exact hcm
  obtain ⟨B, hB⟩ : ∃ B : Addr, (if c = i + 2 then some (⟨g, 0, none⟩ : Addr) else some ⟨g, i + 2, none⟩) = some B := by
    by_cases h : c = i + 2
    · exact ⟨_, if_pos h⟩
    · exact ⟨_, if_neg h⟩
  have hnews : Hid (∀ j u, ((xs.drop (i + 2)).map (Value.int .i64))[j]? = some u → w.drew.cell? (B.add j) = some u) := by
    intro j u hu
    have ht := h.il.tail (k := i + 2) (d := c) (by omega) hcap
    rw [Nat.zero_add, hB] at ht
    have hj : j < n - (i + 2) := by
      have := (List.getElem?_eq_some_iff.1 hu).1
      simp at this
      have := HL.out
      omega
    obtain ⟨ad, e, hc⟩ := ht.at_ hj
    injection e with e
    subst e
    show w.cell? _ = _
    rw [hc, ← hu]
    simp [List.getD, show i + 2 + j < xs.length by have := HL.out; omega]
  have s1 : Hid (((xs.drop (i + 2)).map (Value.int .i64)).length = (n - (i + 2)) * 1) := by
    have := HL.out
    show _ = _
    simp
    omega
  have s2 : Hid (∀ u ∈ (xs.drop (i + 2)).map (Value.int .i64), u.oneCell' = true) := ints_oneCell _ _
  have s3 : Hid (∀ j, j < ((xs.drop (i + 2)).map (Value.int .i64)).length → (w.drew.cell? ⟨g, 0 + i * 1 + j, none⟩).isSome = true ∧ w.drew.frozen? ⟨g, 0 + i * 1 + j, none⟩ = false) := by
    intro j hj
    rw [s1.out] at hj
    refine ⟨?_, h.frozen _⟩
    show (w.cell? _).isSome = true
    rw [h.cell (by omega)]
    rfl
  have hic : i ≤ c := by omega
  have hwr : IntKind.i64.wrap ((i : Int) + 2) = (i : Int) + 2 := by rw [IntKind.wrap_i64]; omega
  have hp0 : (0 : Int) ≤ (i : Int) + 2 := by omega
  have hp1 : (i : Int) + 2 ≤ (n : Int) := by omega
  have hp2 : ((i : Int) + 2).toNat = i + 2 := by omega
  have HO : Hid (OwnI (w.drew.setCells g i (List.drop (i + 2) (List.map (Value.int .i64) xs))) base (some ⟨g, 0, none⟩) n c (setMany xs i (xs.drop (i + 2)))) := by
    have h1 : OwnI w.drew base (some ⟨g, 0, none⟩) n c xs := h.drew
    rw [← List.map_drop]
    exact h1.setCells _ i
  have HG : Hid (w.grownBy (w.drew.setCells g i (List.drop (i + 2) (List.map (Value.int .i64) xs))) (some g)) := grownBy_setCells g _ _ _ _ (grownBy_drew (World.grownBy.refl w _))
  have hclr := run_clear_tail2 (w.drew.setCells g i (List.drop (i + 2) (List.map (Value.int .i64) xs))) 0 (i := i + (n - (i + 2))) (m := n - (i + (n - (i + 2)))) (d := c - (i + (n - (i + 2)))) HO.out (by omega) (by omega)
  clear h
  go_enter Try.func114, Try.ntmps114
  go_wp2_with fail
  go_region_law (refine step_append_room rfl (.tmp 22) (.tmp 25) 22 rfl 3 i0 1 Try.underlying22 hi0 hz1 g 0 i c (by simp [Act.eval, Act.put]) B (n - (i + 2)) (c - (i + 2)) ((xs.drop (i + 2)).map (Value.int .i64)) (by simp [Act.eval, Act.put]) s1.out hnews.out s2.out (by omega) s3.out ?_)
  go_wp2
  go_ret
  have e1 : i + (n - (i + 2)) = n - 2 := by omega
  rw [e1]
  refine ⟨rfl, ?_, ?_⟩
  · have h2 := ((HO.out.set_ (n - 2) 0).set_ (n - 2 + 1) 0).shrink (m := n - 2) (by omega) (by omega)
    rw [deleted2 HL.out hi] at h2
    exact h2
  · exact grownBy_setCells g [Value.int .i64 0, Value.int .i64 0] (n - 2) _ _ HG.out
end Go.Proofs.Ytoaiblhlpdaeoaa
