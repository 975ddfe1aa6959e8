/- slices.Repeat. -/
import Derived.Test.YthhcjnmlpojjeaaMul
import Derived.Test.YthhcjnmlpojjeaaSmall2
import Derived.Test.YthhcjnmlpojjeaaBase1
import Derived.Test.YthhcjnmlpojjeaaEqual
import Derived.Laws.CopyOwn
import Derived.Deep.OwnRows
namespace Go.Proofs.Ythhcjnmlpojjeaa
set_option linter.unusedVariables false
set_option linter.unusedSimpArgs false
open Go.RowKit

theorem splice_map {f : Int → Value} (L : List Int) (off : Nat) (cs : List Int) : splice (L.map f) off (cs.map f) = (splice L off cs).map f := by
  simp [splice, List.map_take, List.map_drop]
/-- n elements of the repeated list, then zeros. -/
def repZ (xs : List Int) (k n : Nat) : List Int := (rep xs k).take n ++ List.replicate ((rep xs k).length - n) 0
theorem repZ_length (xs : List Int) (k n : Nat) (h : n ≤ (rep xs k).length) : (repZ xs k n).length = (rep xs k).length := by
  simp [repZ]; omega
theorem repZ_zero (xs : List Int) (k : Nat) : repZ xs k 0 = List.replicate (rep xs k).length 0 := by simp [repZ]
theorem repZ_end (xs : List Int) (k : Nat) : repZ xs k (rep xs k).length = rep xs k := by simp [repZ]
theorem repZ_first (xs : List Int) (k : Nat) (hk : 0 < k) : splice (repZ xs k 0) 0 xs = repZ xs k xs.length := by
  obtain ⟨k, rfl⟩ : ∃ j, k = j + 1 := ⟨k - 1, by omega⟩
  simp [splice, repZ, rep_succ]
theorem repZ_step (xs : List Int) (k q m : Nat) (hq : q ≤ k) (hm : q * xs.length + m ≤ (rep xs k).length) (hmq : m ≤ q * xs.length) :
    splice (repZ xs k (q * xs.length)) (q * xs.length) ((rep xs k).take m) = repZ xs k (q * xs.length + m) := by
  have hl := rep_length xs k
  have hlq := rep_length xs q
  have e0 : rep xs k = rep xs q ++ rep xs (k - q) := by rw [← rep_add]; congr 1; omega
  have e0' : rep xs k = rep xs (k - q) ++ rep xs q := by rw [← rep_add]; congr 1; omega
  have hl2 := rep_length xs (k - q)
  have e1 : (rep xs k).take (q * xs.length) = rep xs q := by rw [e0, List.take_append_of_le_length (by omega), List.take_of_length_le (by omega)]
  have hlen : (rep xs k).length = (rep xs q).length + (rep xs (k - q)).length := by
    conv => lhs; rw [e0]
    exact List.length_append
  have e2 : (rep xs k).take (q * xs.length + m) = rep xs q ++ (rep xs k).take m := by
    conv => lhs; rw [e0]
    rw [List.take_append, List.take_of_length_le (by omega)]
    congr 1
    rw [e0', List.take_append_of_le_length (by omega)]
    congr 1
    omega
  unfold repZ
  rw [e1, e2]
  unfold splice
  rw [List.take_append_of_le_length (by omega), List.take_of_length_le (by omega), List.append_assoc]
  congr 1
  congr 1
  rw [List.drop_append, List.drop_of_length_le (by omega), List.nil_append, List.drop_replicate]
  congr 1
  simp only [List.length_take]
  omega
theorem OwnI.ofRow {w : World} {base g n : Nat} {xs : List Int} (hb : base ≤ g) (h : w.heap[g]? = some (.cells (xs.map (Value.int .i64)).toArray 3 (0, 0))) (hn : xs.length = n) (hs : n ≤ 17592186044416) : OwnI w base (some ⟨g, 0, none⟩) n n xs := by
  refine ⟨⟨by simpa using hn, .inr ⟨g, n, _, rfl, hb, h, Nat.le_refl _, by unfold maxLen; omega, ?_, ?_⟩⟩, hs⟩
  · simp [hn]
  · rw [← hn]; exact List.take_of_length_le (by simp)
theorem il_ofRow {w : World} {g : Nat} {xs : List Int} (h : w.heap[g]? = some (.cells (xs.map (Value.int .i64)).toArray 3 (0, 0))) (j : Nat) (v : Value) (m : Nat) (hv : ((xs.take m).map (Value.int .i64))[j]? = some v) : w.cell? ((⟨g, 0, none⟩ : Addr).add j) = some v := by
  rw [add_zero_block, cell_of_row w g j _ _ _ h]
  have hj := (List.getElem?_eq_some_iff.1 hv).1
  simp only [List.length_map, List.length_take] at hj
  rw [← hv]
  simp [List.getElem?_map, List.getElem?_take, show j < m by omega]
theorem ints_one (xs : List Int) : ∀ v ∈ xs.map (Value.int .i64), v.oneCell' = true := by
  intro v hv
  obtain ⟨x, _, rfl⟩ := List.mem_map.1 hv
  rfl

theorem made_zeros (N : Nat) : madeCells #[.int .i64 0] N = ((List.replicate N (0 : Int)).map (Value.int .i64)).toArray := by
  apply Array.ext
  · simp [size_madeCells]
  · intro i h1 h2
    simp [madeCells, Nat.mod_one]
theorem made_row (w : World) (xs : List Int) (k N : Nat) (h : (rep xs k).length = N) : (w.alloc (.cells (madeCells #[.int .i64 0] N) 3)).heap[w.heap.size]? = some (.cells ((repZ xs k 0).map (Value.int .i64)).toArray 3 (0, 0)) := by
  rw [repZ_zero, h, made_zeros]
  exact heap_alloc_new w _
theorem IL.cells_ {w : World} {A : Option Addr} {n : Nat} {xs : List Int} (h : IL w A n xs) (h0 : 0 < n) : ∃ ad, A = some ad ∧ ∀ j v, (xs.map (Value.int .i64))[j]? = some v → w.cell? (ad.add j) = some v := by
  obtain ⟨ad, e, _, hc⟩ := h.mem h0
  refine ⟨ad, e, fun j v hv => ?_⟩
  have hj := (List.getElem?_eq_some_iff.1 hv).1
  have hl := h.len
  simp only [List.length_map] at hj
  rw [hc j (by omega), ← hv, List.getElem?_map, List.getElem?_eq_getElem hj]
  simp [List.getD, List.getElem?_eq_getElem hj]

set_option maxRecDepth 100000 in
set_option maxHeartbeats 2000000 in
theorem repeat_any (A : Option Addr) (l c k : Nat) (xs : List Int) (w : World) (ha : IL w A l xs) (hlp : 0 < l) (hk : 0 < k) (hs : k * l ≤ 1000000) :
    Calls Try.prog 50 #[.slice A l c, .int .i64 k] w (GivesOwn w (rep xs k)) := by
  obtain ⟨N, hN⟩ : ∃ N, k * l = N := ⟨_, rfl⟩
  have hl := ha.len
  have hNl := rep_length xs k
  rw [hl, hN] at hNl
  have hlN : l ≤ N := by rw [← hN]; exact Nat.le_mul_of_pos_left l hk
  have hkN : k ≤ N := by rw [← hN]; exact Nat.le_mul_of_pos_right k hlp
  rw [hN] at hs
  have HN := hide hN
  have HNL := hide hNl
  have HL := hide hl
  have HA := hide ha
  have HM : Hid (∀ w, Calls Try.prog 56 #[.int .u64 l, .int .u64 k] w fun e w' => e = .returned (.tuple #[.int .u64 0, .int .u64 N]) ∧ w = w') := fun w => by
    refine (bits_Mul l k (by omega) (by omega) w).mono ?_
    rintro e w' ⟨rfl, rfl⟩
    have e1 : l * k = N := by rw [Nat.mul_comm]; exact HN.out
    rw [e1, show N / 18446744073709551616 = 0 by omega, show N % 18446744073709551616 = N by omega]
    exact ⟨rfl, rfl⟩
  obtain ⟨i0, hi0, hz0, hz1, hz2⟩ := info_parts int_info
  have h48 : i0.bytes * N ≤ 281474976710656 := by rw [hz2]; omega
  have HI0 := hide hi0
  have HZ0 := hide hz0
  have HZ1 := hide hz1
  have H48 := hide h48
  clear ha hl hNl hN hi0 hz0 hz1 hz2 h48
  go_enter Try.func50, Try.ntmps50
  have hd1 : decide ((k : Int) < 0) = false := by simp
  have hd2 : decide ((9223372036854775807 : Int) < (N : Int)) = false := decide_eq_false (by omega)
  have HMR := hide (made_row w xs k N HNL.out)
  have HAL := hide (HA.out.alloc (.cells (madeCells #[.int .i64 0] N) 3))
  have HRF : Hid (splice ((repZ xs k 0).map (Value.int .i64)) 0 (xs.map (Value.int .i64)) = (repZ xs k l).map (Value.int .i64)) := by
    rw [splice_map, repZ_first xs k hk, HL.out]
    exact rfl
  have HI3 : Hid ((Try.prog.info? 3).map (·.size) = some 1) := by
    rw [HI0.out]
    exact congrArg some HZ1.out
  have HB0 := hide ((Below.refl w.heap.size w).alloc (Nat.le_refl _) (.cells (madeCells #[.int .i64 0] N) 3))
  have HRL : ∀ n, n ≤ N → Hid (((repZ xs k n).map (Value.int .i64)).length = N) := fun n hn => by
    rw [List.length_map, repZ_length xs k n (by rw [HNL.out]; exact hn)]
    exact HNL.out
  have HXL : Hid ((xs.map (Value.int .i64)).length = l) := by rw [List.length_map]; exact HL.out
  go_wp2_with (first | (go_at_call 56; refine (HM.out _).mono ?_; rintro e w' ⟨rfl, rfl⟩) | (at_make; refine wpList_make_row _ rfl _ _ 22 rfl 3 i0 (.int .i64 0) Try.underlying22 HI0.out HZ0.out HZ1.out rfl .i64 .i64 N rfl rfl H48.out (by omega) ?_) | ((with_reducible show wpList _ _ _ (Oper.mk _ (.call { callee := .builtin .copy, args := _, argTypes := _ }) _ _ _ _ :: _) _ _); go_loud (refine wpList_copy_splice rfl (.tmp 31) (.tmp 32) 22 22 rfl 3 Try.underlying22 HI3.out (some ⟨w.heap.size, 0, none⟩) A N N l c rfl rfl w.heap.size 0 ((repZ xs k 0).map (Value.int .i64)) 3 HMR.out (xs.map (Value.int .i64)) (by rw [HXL.out]; exact (Nat.min_eq_left hlN).symm) (fun _ => ⟨rfl, HAL.out.cells_ hlp⟩) (by rw [HXL.out, (HRL 0 (Nat.zero_le _)).out]; omega) (ints_one _) w.heap.size w HB0.out (Nat.le_refl _) ?_; intro w2 hg2 hb2; rw [HRF.out] at hg2; rw [HXL.out])))
  clear HMR HAL HB0 HRF
  go_loopw [8] (fun nv wr => ∃ q n : Nat, Hid (n < N → n = q * l ∧ q ≤ k) ∧ 0 < n ∧ n ≤ N ∧ nv = .int .i64 n ∧ Hid (wr.heap[w.heap.size]? = some (.cells ((repZ xs k n).map (Value.int .i64)).toArray 3 (0, 0))) ∧ Below w.heap.size w wr) (fun nv _ => N - (intOf nv).toNat)
  case atStart => exact ⟨1, l, fun _ => ⟨(Nat.one_mul l).symm, hk⟩, hlp, hlN, rfl, hg2, hb2⟩
  case round =>
    clear hg2 hb2
    obtain ⟨q, n, HQ, hn0, hnN, rfl, HG, hb⟩ := hrel
    by_cases hlt : n < N
    · obtain ⟨m, hm⟩ : ∃ m, min n (N - n) = m := ⟨_, rfl⟩
      have hm1 : 0 < m := by omega
      have hm2 : m ≤ n := by omega
      have hm3 : n + m ≤ N := by omega
      have HN2 : Hid (n + m < N → n + m = (q + q) * l ∧ q + q ≤ k) := fun h => by
        have e : m = n := by omega
        obtain ⟨e1, e2⟩ := HQ.out hlt
        subst e
        refine ⟨by rw [Nat.add_mul, ← e1], ?_⟩
        have h3 : (q + q) * l < k * l := by rw [Nat.add_mul, ← e1, HN.out]; exact h
        exact Nat.le_of_lt (Nat.lt_of_mul_lt_mul_right h3)
      have HS : Hid (splice ((repZ xs k n).map (Value.int .i64)) n (((rep xs k).take m).map (Value.int .i64)) = (repZ xs k (n + m)).map (Value.int .i64)) := by
        obtain ⟨e1, e2⟩ := HQ.out hlt
        have h2 := repZ_step xs k q m e2 (by rw [HL.out, HNL.out, ← e1]; exact hm3) (by rw [HL.out, ← e1]; exact hm2)
        rw [HL.out, ← e1] at h2
        rw [splice_map, h2]
        exact rfl
      have HCL : Hid ((((rep xs k).take m).map (Value.int .i64)).length = m) := by
        rw [List.length_map, List.length_take, HNL.out]
        exact Nat.min_eq_left (by omega)
      have HSRC : Hid (∀ j v, (((rep xs k).take m).map (Value.int .i64))[j]? = some v → wr.cell? ((⟨w.heap.size, 0, none⟩ : Addr).add j) = some v) := by
        intro j v hv
        refine il_ofRow HG.out j v m ?_
        rw [← hv]
        congr 1
        congr 1
        unfold repZ
        rw [List.take_append_of_le_length (by rw [List.length_take, HNL.out]; omega), List.take_take]
        congr 1
        omega
      have HB := hide hb
      have HMM : Hid (m = Nat.min n (N - n)) := hide hm.symm
      have hne : ¬ N = n := by omega
      have hnN2 : (n : Int) ≤ (N : Int) := by omega
      clear hb hm HQ
      go_wp2_with fail
      go_region_law (refine step_copy_splice rfl (.tmp 41) (.tmp 44) 22 22 rfl 3 Try.underlying22 HI3.out (some ⟨w.heap.size, n, none⟩) (some ⟨w.heap.size, 0, none⟩) (N - n) (N - n) n N (by simp [Act.eval, Act.put, hne]) (by simp [Act.eval, Act.put]) w.heap.size n ((repZ xs k n).map (Value.int .i64)) 3 HG.out (((rep xs k).take m).map (Value.int .i64)) (by rw [HCL.out]; exact HMM.out) (fun _ => ⟨rfl, _, rfl, HSRC.out⟩) (by rw [HCL.out, (HRL n hnN).out]; omega) (ints_one _) w.heap.size w HB.out.drew (Nat.le_refl _) ?_; intro w2 hg2 hb2; rw [HS.out] at hg2; rw [HCL.out])
      show Exit.inBlock 1 _ Exit.normal (Act.put (Act.put _ (some 46) _) (some 8) _) _
      simp only [Act.put, List.setIfInBounds_toArray, List.set_cons_zero, List.set_cons_succ]
      go_roundw
      case rel =>
        have hnum : Value.int .i64 (IntKind.i64.wrap ((n : Int) + (m : Int))) = .int .i64 ((n + m : Nat) : Int) := by
          rw [show IntKind.i64.wrap ((n : Int) + (m : Int)) = ((n + m : Nat) : Int) by rw [IntKind.wrap_i64]; omega]
        exact ⟨_, _, _, _, _, _, _, _, _, _, _, _, _, _, ⟨q + q, n + m, HN2.out, by omega, hm3, hnum, hg2, hb2⟩, rfl⟩
      case measure => simp [intOf, IntKind.wrap_i64]; omega
    · have HE : Hid (OwnI wr w.heap.size (some ⟨w.heap.size, 0, none⟩) N N (rep xs k)) := by
        have e : n = N := by omega
        have h2 := HG.out
        rw [e, ← HNL.out, repZ_end] at h2
        exact OwnI.ofRow (Nat.le_refl _) h2 HNL.out (by omega)
      have HB := hide hb
      clear hb HG HQ
      go_wp2_with fail
      go_ret
      exact ⟨_, _, _, rfl, HE.out, HB.out⟩
end Go.Proofs.Ythhcjnmlpojjeaa
