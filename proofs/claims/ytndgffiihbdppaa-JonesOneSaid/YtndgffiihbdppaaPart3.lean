/- Several texts in one. -/
import Derived.Test.YtndgffiihbdppaaPart2
import Derived.Test.YtndgffiihbdppaaPart1
import Derived.Test.YtndgffiihbdppaaBase1
import Derived.Laws.CopyOwn
import Derived.Deep.OwnRows
import Derived.Deep.DeepCutAuto
import Derived.Deep.LoopGhost
/- slices.Repeat. -/
namespace Go.Proofs.Ytndgffiihbdppaa
set_option linter.unusedVariables false
set_option linter.unusedSimpArgs false
open Go.RowKit

theorem splice_map {f : Int → Value} (L : List Int) (off : Nat) (cs : List Int) : splice (L.map f) off (cs.map f) = (splice L off cs).map f := by
  simp [splice, List.map_take, List.map_drop]
/-- n elements of the repeated list, then zeros. -/
def repZ (xs : List Int) (k n : Nat) : List Int := (rep xs k).take n ++ List.replicate ((rep xs k).length - n) 0
theorem repZ_length (xs : List Int) (k n : Nat) (h : n ≤ (rep xs k).length) : (repZ xs k n).length = (rep xs k).length := by
  simp [repZ]; omega
theorem repZ_zero (xs : List Int) (k : Nat) : repZ xs k 0 = List.replicate (rep xs k).length 0 := by simp [repZ]
theorem repZ_end (xs : List Int) (k : Nat) : repZ xs k (rep xs k).length = rep xs k := by simp [repZ]
theorem repZ_first (xs : List Int) (k : Nat) (hk : 0 < k) : splice (repZ xs k 0) 0 xs = repZ xs k xs.length := by
  obtain ⟨k, rfl⟩ : ∃ j, k = j + 1 := ⟨k - 1, by omega⟩
  simp [splice, repZ, rep_succ]
theorem repZ_step (xs : List Int) (k q m : Nat) (hq : q ≤ k) (hm : q * xs.length + m ≤ (rep xs k).length) (hmq : m ≤ q * xs.length) :
    splice (repZ xs k (q * xs.length)) (q * xs.length) ((rep xs k).take m) = repZ xs k (q * xs.length + m) := by
  have hl := rep_length xs k
  have hlq := rep_length xs q
  have e0 : rep xs k = rep xs q ++ rep xs (k - q) := by rw [← rep_add]; congr 1; omega
  have e0' : rep xs k = rep xs (k - q) ++ rep xs q := by rw [← rep_add]; congr 1; omega
  have hl2 := rep_length xs (k - q)
  have e1 : (rep xs k).take (q * xs.length) = rep xs q := by rw [e0, List.take_append_of_le_length (by omega), List.take_of_length_le (by omega)]
  have hlen : (rep xs k).length = (rep xs q).length + (rep xs (k - q)).length := by
    conv => lhs; rw [e0]
    exact List.length_append
  have e2 : (rep xs k).take (q * xs.length + m) = rep xs q ++ (rep xs k).take m := by
    conv => lhs; rw [e0]
    rw [List.take_append, List.take_of_length_le (by omega)]
    congr 1
    rw [e0', List.take_append_of_le_length (by omega)]
    congr 1
    omega
  unfold repZ
  rw [e1, e2]
  unfold splice
  rw [List.take_append_of_le_length (by omega), List.take_of_length_le (by omega), List.append_assoc]
  congr 1
  congr 1
  rw [List.drop_append, List.drop_of_length_le (by omega), List.nil_append, List.drop_replicate]
  congr 1
  simp only [List.length_take]
  omega
theorem OwnI.ofRow {w : World} {base g n : Nat} {xs : List Int} (hb : base ≤ g) (h : w.heap[g]? = some (.cells (xs.map (Value.int .i64)).toArray 3 (0, 0))) (hn : xs.length = n) (hs : n ≤ 17592186044416) : OwnI w base (some ⟨g, 0, none⟩) n n xs := by
  refine ⟨⟨by simpa using hn, .inr ⟨g, n, _, rfl, hb, h, Nat.le_refl _, by unfold maxLen; omega, ?_, ?_⟩⟩, hs⟩
  · simp [hn]
  · rw [← hn]; exact List.take_of_length_le (by simp)
theorem il_ofRow {w : World} {g : Nat} {xs : List Int} (h : w.heap[g]? = some (.cells (xs.map (Value.int .i64)).toArray 3 (0, 0))) (j : Nat) (v : Value) (m : Nat) (hv : ((xs.take m).map (Value.int .i64))[j]? = some v) : w.cell? ((⟨g, 0, none⟩ : Addr).add j) = some v := by
  rw [add_zero_block, cell_of_row w g j _ _ _ h]
  have hj := (List.getElem?_eq_some_iff.1 hv).1
  simp only [List.length_map, List.length_take] at hj
  rw [← hv]
  simp [List.getElem?_map, List.getElem?_take, show j < m by omega]
theorem ints_one (xs : List Int) : ∀ v ∈ xs.map (Value.int .i64), v.oneCell' = true := by
  intro v hv
  obtain ⟨x, _, rfl⟩ := List.mem_map.1 hv
  rfl

theorem made_zeros (N : Nat) : madeCells #[.int .i64 0] N = ((List.replicate N (0 : Int)).map (Value.int .i64)).toArray := by
  apply Array.ext
  · simp [size_madeCells]
  · intro i h1 h2
    simp [madeCells, Nat.mod_one]
theorem made_row (w : World) (xs : List Int) (k N : Nat) (h : (rep xs k).length = N) : (w.alloc (.cells (madeCells #[.int .i64 0] N) 3)).heap[w.heap.size]? = some (.cells ((repZ xs k 0).map (Value.int .i64)).toArray 3 (0, 0)) := by
  rw [repZ_zero, h, made_zeros]
  exact heap_alloc_new w _
theorem IL.cells_ {w : World} {A : Option Addr} {n : Nat} {xs : List Int} (h : IL w A n xs) (h0 : 0 < n) : ∃ ad, A = some ad ∧ ∀ j v, (xs.map (Value.int .i64))[j]? = some v → w.cell? (ad.add j) = some v := by
  obtain ⟨ad, e, _, hc⟩ := h.mem h0
  refine ⟨ad, e, fun j v hv => ?_⟩
  have hj := (List.getElem?_eq_some_iff.1 hv).1
  have hl := h.len
  simp only [List.length_map] at hj
  rw [hc j (by omega), ← hv, List.getElem?_map, List.getElem?_eq_getElem hj]
  simp [List.getD, List.getElem?_eq_getElem hj]

set_option maxRecDepth 100000 in
set_option maxHeartbeats 2000000 in
theorem repeat_any (A : Option Addr) (l c k : Nat) (xs : List Int) (w : World) (ha : IL w A l xs) (hlp : 0 < l) (hk : 0 < k) (hs : k * l ≤ 1000000) :
    Calls Try.prog 121 #[.slice A l c, .int .i64 k] w (GivesOwn w (rep xs k)) := by
  obtain ⟨N, hN⟩ : ∃ N, k * l = N := ⟨_, rfl⟩
  have hl := ha.len
  have hNl := rep_length xs k
  rw [hl, hN] at hNl
  have hlN : l ≤ N := by rw [← hN]; exact Nat.le_mul_of_pos_left l hk
  have hkN : k ≤ N := by rw [← hN]; exact Nat.le_mul_of_pos_right k hlp
  rw [hN] at hs
  have HN := hide hN
  have HNL := hide hNl
  have HL := hide hl
  have HA := hide ha
  have HM : Hid (∀ w, Calls Try.prog 122 #[.int .u64 l, .int .u64 k] w fun e w' => e = .returned (.tuple #[.int .u64 0, .int .u64 N]) ∧ w = w') := fun w => by
    refine (bits_Mul l k (by omega) (by omega) w).mono ?_
    rintro e w' ⟨rfl, rfl⟩
    have e1 : l * k = N := by rw [Nat.mul_comm]; exact HN.out
    rw [e1, show N / 18446744073709551616 = 0 by omega, show N % 18446744073709551616 = N by omega]
    exact ⟨rfl, rfl⟩
  obtain ⟨i0, hi0, hz0, hz1, hz2⟩ := info_parts int_info
  have h48 : i0.bytes * N ≤ 281474976710656 := by rw [hz2]; omega
  have HI0 := hide hi0
  have HZ0 := hide hz0
  have HZ1 := hide hz1
  have H48 := hide h48
  clear ha hl hNl hN hi0 hz0 hz1 hz2 h48
  go_enter Try.func121, Try.ntmps121
  have hd1 : decide ((k : Int) < 0) = false := by simp
  have hd2 : decide ((9223372036854775807 : Int) < (N : Int)) = false := decide_eq_false (by omega)
  have HMR := hide (made_row w xs k N HNL.out)
  have HAL := hide (HA.out.alloc (.cells (madeCells #[.int .i64 0] N) 3))
  have HRF : Hid (splice ((repZ xs k 0).map (Value.int .i64)) 0 (xs.map (Value.int .i64)) = (repZ xs k l).map (Value.int .i64)) := by
    rw [splice_map, repZ_first xs k hk, HL.out]
    exact rfl
  have HI3 : Hid ((Try.prog.info? 3).map (·.size) = some 1) := by
    rw [HI0.out]
    exact congrArg some HZ1.out
  have HB0 := hide ((Below.refl w.heap.size w).alloc (Nat.le_refl _) (.cells (madeCells #[.int .i64 0] N) 3))
  have HRL : ∀ n, n ≤ N → Hid (((repZ xs k n).map (Value.int .i64)).length = N) := fun n hn => by
    rw [List.length_map, repZ_length xs k n (by rw [HNL.out]; exact hn)]
    exact HNL.out
  have HXL : Hid ((xs.map (Value.int .i64)).length = l) := by rw [List.length_map]; exact HL.out
  go_wp2_with (first | (go_at_call 122; refine (HM.out _).mono ?_; rintro e w' ⟨rfl, rfl⟩) | (at_make; refine wpList_make_row _ rfl _ _ 22 rfl 3 i0 (.int .i64 0) Try.underlying22 HI0.out HZ0.out HZ1.out rfl .i64 .i64 N rfl rfl H48.out (by omega) ?_) | ((with_reducible show wpList _ _ _ (Oper.mk _ (.call { callee := .builtin .copy, args := _, argTypes := _ }) _ _ _ _ :: _) _ _); go_loud (refine wpList_copy_splice rfl (.tmp 31) (.tmp 32) 22 22 rfl 3 Try.underlying22 HI3.out (some ⟨w.heap.size, 0, none⟩) A N N l c rfl rfl w.heap.size 0 ((repZ xs k 0).map (Value.int .i64)) 3 HMR.out (xs.map (Value.int .i64)) (by rw [HXL.out]; exact (Nat.min_eq_left hlN).symm) (fun _ => ⟨rfl, HAL.out.cells_ hlp⟩) (by rw [HXL.out, (HRL 0 (Nat.zero_le _)).out]; omega) (ints_one _) w.heap.size w HB0.out (Nat.le_refl _) ?_; intro w2 hg2 hb2; rw [HRF.out] at hg2; rw [HXL.out])))
  clear HMR HAL HB0 HRF
  go_loopw [8] (fun nv wr => ∃ q n : Nat, Hid (n < N → n = q * l ∧ q ≤ k) ∧ 0 < n ∧ n ≤ N ∧ nv = .int .i64 n ∧ Hid (wr.heap[w.heap.size]? = some (.cells ((repZ xs k n).map (Value.int .i64)).toArray 3 (0, 0))) ∧ Below w.heap.size w wr) (fun nv _ => N - (intOf nv).toNat)
  case atStart => exact ⟨1, l, fun _ => ⟨(Nat.one_mul l).symm, hk⟩, hlp, hlN, rfl, hg2, hb2⟩
  case round =>
    clear hg2 hb2
    obtain ⟨q, n, HQ, hn0, hnN, rfl, HG, hb⟩ := hrel
    by_cases hlt : n < N
    · obtain ⟨m, hm⟩ : ∃ m, min n (N - n) = m := ⟨_, rfl⟩
      have hm1 : 0 < m := by omega
      have hm2 : m ≤ n := by omega
      have hm3 : n + m ≤ N := by omega
      have HN2 : Hid (n + m < N → n + m = (q + q) * l ∧ q + q ≤ k) := fun h => by
        have e : m = n := by omega
        obtain ⟨e1, e2⟩ := HQ.out hlt
        subst e
        refine ⟨by rw [Nat.add_mul, ← e1], ?_⟩
        have h3 : (q + q) * l < k * l := by rw [Nat.add_mul, ← e1, HN.out]; exact h
        exact Nat.le_of_lt (Nat.lt_of_mul_lt_mul_right h3)
      have HS : Hid (splice ((repZ xs k n).map (Value.int .i64)) n (((rep xs k).take m).map (Value.int .i64)) = (repZ xs k (n + m)).map (Value.int .i64)) := by
        obtain ⟨e1, e2⟩ := HQ.out hlt
        have h2 := repZ_step xs k q m e2 (by rw [HL.out, HNL.out, ← e1]; exact hm3) (by rw [HL.out, ← e1]; exact hm2)
        rw [HL.out, ← e1] at h2
        rw [splice_map, h2]
        exact rfl
      have HCL : Hid ((((rep xs k).take m).map (Value.int .i64)).length = m) := by
        rw [List.length_map, List.length_take, HNL.out]
        exact Nat.min_eq_left (by omega)
      have HSRC : Hid (∀ j v, (((rep xs k).take m).map (Value.int .i64))[j]? = some v → wr.cell? ((⟨w.heap.size, 0, none⟩ : Addr).add j) = some v) := by
        intro j v hv
        refine il_ofRow HG.out j v m ?_
        rw [← hv]
        congr 1
        congr 1
        unfold repZ
        rw [List.take_append_of_le_length (by rw [List.length_take, HNL.out]; omega), List.take_take]
        congr 1
        omega
      have HB := hide hb
      have HMM : Hid (m = Nat.min n (N - n)) := hide hm.symm
      have hne : ¬ N = n := by omega
      have hnN2 : (n : Int) ≤ (N : Int) := by omega
      clear hb hm HQ
      go_wp2_with fail
      go_region_law (refine step_copy_splice rfl (.tmp 41) (.tmp 44) 22 22 rfl 3 Try.underlying22 HI3.out (some ⟨w.heap.size, n, none⟩) (some ⟨w.heap.size, 0, none⟩) (N - n) (N - n) n N (by simp [Act.eval, Act.put, hne]) (by simp [Act.eval, Act.put]) w.heap.size n ((repZ xs k n).map (Value.int .i64)) 3 HG.out (((rep xs k).take m).map (Value.int .i64)) (by rw [HCL.out]; exact HMM.out) (fun _ => ⟨rfl, _, rfl, HSRC.out⟩) (by rw [HCL.out, (HRL n hnN).out]; omega) (ints_one _) w.heap.size w HB.out.drew (Nat.le_refl _) ?_; intro w2 hg2 hb2; rw [HS.out] at hg2; rw [HCL.out])
      show Exit.inBlock 1 _ Exit.normal (Act.put (Act.put _ (some 46) _) (some 8) _) _
      simp only [Act.put, List.setIfInBounds_toArray, List.set_cons_zero, List.set_cons_succ]
      go_roundw
      case rel =>
        have hnum : Value.int .i64 (IntKind.i64.wrap ((n : Int) + (m : Int))) = .int .i64 ((n + m : Nat) : Int) := by
          rw [show IntKind.i64.wrap ((n : Int) + (m : Int)) = ((n + m : Nat) : Int) by rw [IntKind.wrap_i64]; omega]
        exact ⟨_, _, _, _, _, _, _, _, _, _, _, _, _, _, ⟨q + q, n + m, HN2.out, by omega, hm3, hnum, hg2, hb2⟩, rfl⟩
      case measure => simp [intOf, IntKind.wrap_i64]; omega
    · have HE : Hid (OwnI wr w.heap.size (some ⟨w.heap.size, 0, none⟩) N N (rep xs k)) := by
        have e : n = N := by omega
        have h2 := HG.out
        rw [e, ← HNL.out, repZ_end] at h2
        exact OwnI.ofRow (Nat.le_refl _) h2 HNL.out (by omega)
      have HB := hide hb
      clear hb HG HQ
      go_wp2_with fail
      go_ret
      exact ⟨_, _, _, rfl, HE.out, HB.out⟩
end Go.Proofs.Ytndgffiihbdppaa
/- timbmake.Letter, timbmake.Word. -/
namespace Go.Proofs.Ytndgffiihbdppaa
set_option linter.unusedVariables false
set_option linter.unusedSimpArgs false
open Go.RowKit

theorem letter_any (x : Int) (k : Nat) (w : World) (h0 : 0 < k) (hk : k ≤ 1000) :
    Calls Try.prog 49 #[.int .i64 x, .int .i64 k] w fun e w' => ∃ y : Int, e = .returned (.int .i64 y) ∧ y ≠ 0 ∧ -(k : Int) ≤ y ∧ y ≤ k ∧ w = w' := by
  have HM := hide (mbelow_any x (2 * k) w (by omega) (by omega))
  have h1 := Int.emod_nonneg x (show ((2 * k : Nat) : Int) ≠ 0 by omega)
  have h2 := Int.emod_lt_of_pos x (show (0 : Int) < ((2 * k : Nat) : Int) by omega)
  obtain ⟨z, hz⟩ : ∃ z, x % ((2 * k : Nat) : Int) = z := ⟨_, rfl⟩
  rw [hz] at HM h1 h2
  have e2 : ((2 * k : Nat) : Int) = 2 * (k : Int) := by omega
  rw [e2] at HM h2
  clear hz e2
  go_enter Try.func49, Try.ntmps49
  go_wp2_with fail
  refine HM.out.mono ?_
  rintro e w' ⟨rfl, rfl⟩
  by_cases hlt : z < k
  · go_wp2
    go_ret
    exact ⟨z + 1, rfl, by omega, by omega, by omega, rfl⟩
  · go_wp2
    go_ret
    exact ⟨_, rfl, by omega, by omega, by omega, rfl⟩

/-- The letters so far. -/
structure WoSt (w wr : World) (k : Nat) (A : Option Addr) (n c : Nat) (us : List Int) : Prop where
  own : OwnI wr w.heap.size A n c us
  ok : ∀ x ∈ us, x ≠ 0 ∧ x ≤ k ∧ -(k : Int) ≤ x
  below : Below w.heap.size w wr
set_option maxRecDepth 100000 in
set_option maxHeartbeats 2000000 in
theorem word_any (A : Option Addr) (k l c L : Nat) (xs : List Int) (w : World) (hx : IL w A l xs) (hc : l ≤ c) (h0 : 0 < k) (hk : k ≤ 1000) (hL : L ≤ 1000) :
    Calls Try.prog 16 #[.int .i64 k, .slice A l c, .int .i64 L] w fun e w' => ∃ us B m d, e = .returned (.slice B m d) ∧ OwnI w' w.heap.size B m d us ∧ (∀ x ∈ us, x ≠ 0 ∧ x ≤ k ∧ -(k : Int) ≤ x) ∧ m ≤ L ∧ Below w.heap.size w w' := by
  obtain ⟨i0, hi0, hz0, hz1, hz2⟩ := info_parts int_info
  have HX := hide hx
  have hsm := hx.small
  clear hx
  obtain ⟨K, hK⟩ : ∃ K, K = min l L := ⟨_, rfl⟩
  have hKl : K ≤ l := by omega
  have HP := hide (HX.out.pre hKl)
  have hK10 : K ≤ L := by omega
  go_enter Try.func16, Try.ntmps16
  go_upto_region 3 with fail
  all_goals
    first | (have e : K = L := by omega) | (have e : K = l := by omega)
    subst e
    clear hK
    go_loopw [7, 17] (fun ov iv wr => ∃ (i c7 : Nat) (A7 : Option Addr) (us : List Int), ov = .slice A7 i c7 ∧ iv = .int .i64 i ∧ i ≤ K ∧ WoSt w wr k A7 i c7 us) (fun _ iv _ => K - (intOf iv).toNat)
    case atStart => exact ⟨0, 0, none, [], rfl, rfl, by omega, ⟨OwnI.nil_ _ _, fun x hx => by simp at hx, Below.refl _ _⟩⟩
    case round =>
      obtain ⟨i, c7, A7, us, rfl, rfl, hi, hst⟩ := hrel
      by_cases hlt : i < K
      · obtain ⟨ad, rfl, hcl⟩ := (HP.out.below hst.below).at_ hlt
        generalize (xs.take K).getD i 0 = x at *
        go_wp2_with fail
        refine (letter_any x k wr h0 hk).mono ?_
        rintro e w2 ⟨y, rfl, hy0, hy1, hy2, rfl⟩
        have HST := hide hst
        have hs := hst.below.size
        clear hst hcl
        go_wp2_with (at_builtin; refine wpList_append_int _ rfl _ _ 22 rfl w.heap.size i0 Try.underlying22 hi0 hz0 hz1 hz2 A7 i c7 us rfl (HST.out.own.alloc _) (some ⟨_, 0, none⟩) 1 1 [y] rfl (IL.lit _ [y] (by simp) rfl rfl) (by omega) (by simp; omega) ?_; intro A8 c8 w8 hap)
        have hN : WoSt w w8 k A8 (i + 1) c8 (us ++ [y]) := by
          refine ⟨hap.own, fun z hz => ?_, (HST.out.below.alloc hs _).grown hap.grown (by simp; omega) (fun j hj => (HST.out.own.lt j (by rw [ownBlock_len A7 i (i + 1) c7 c7]; exact hj)).1)⟩
          rcases List.mem_append.1 hz with hz | hz
          · exact HST.out.ok z hz
          · obtain rfl : z = y := by simpa using hz
            exact ⟨hy0, hy2, hy1⟩
        clear hap
        go_roundw
        case rel => exact ⟨i + 1, c8, A8, _, by go_num, by go_num, by omega, hN⟩
        case measure => simp [intOf]; omega
      · go_wp2
        go_ret
        exact ⟨us, A7, i, c7, rfl, hst.own, hst.ok, by omega, hst.below⟩
end Go.Proofs.Ytndgffiihbdppaa
/- What package freegroup's functions are to answer (words alone), and what follows for the facts free and reduced that the laws begin with. -/
namespace Go.Proofs.Ytndgffiihbdppaa
set_option linter.unusedVariables false
set_option linter.unusedSimpArgs false
open Go.RowKit

/-- A slice and an error. -/
def GivesLE (w : World) (err : Int) (xs : List Int) (e : Ending) (w' : World) : Prop :=
  ∃ A n c, e = .returned (.tuple #[.slice A n c, .int .i64 err]) ∧ SL w' A n c xs ∧ Below w.heap.size w w'

/-- The same, the slice in memory that was not there before. -/
def GivesLEn (w : World) (err : Int) (xs : List Int) (e : Ending) (w' : World) : Prop :=
  ∃ A n c, e = .returned (.tuple #[.slice A n c, .int .i64 err]) ∧ SL w' A n c xs ∧ (0 < n → ∀ ad, A = some ad → w.heap.size ≤ ad.block) ∧ Below w.heap.size w w'
theorem GivesLEn.le {w : World} {err : Int} {xs : List Int} {e : Ending} {w' : World} (h : GivesLEn w err xs e w') : GivesLE w err xs e w' := by
  obtain ⟨A, n, c, h1, h2, _, h3⟩ := h
  exact ⟨A, n, c, h1, h2, h3⟩

end Go.Proofs.Ytndgffiihbdppaa
/- Slices of polynomials, and slices of these (words on memory). -/
namespace Go.Proofs.Ytndgffiihbdppaa
set_option linter.unusedVariables false
set_option linter.unusedSimpArgs false
open Go.RowKit

abbrev Po := Int × List Int
/-- A slice of polynomials that reads as ps. -/
structure SPo (w : World) (A : Option Addr) (n c : Nat) (ps : List Po) : Prop where
  len : ps.length = n
  small : n ≤ 17592186044416
  nil : A = none → n = 0 ∧ c = 0
  cap : n ≤ c
  mem : 0 < n → ∃ ad, A = some ad ∧ ad.block < w.heap.size ∧ ∀ j, j < n → ∃ B m d, w.cell? (ad.add (j * 2)) = some (.int .i64 (ps.getD j (0, [])).1) ∧ w.cell? ⟨(ad.add (j * 2)).block, (ad.add (j * 2)).off + 1, none⟩ = some (.slice B m d) ∧ SL w B m d (ps.getD j (0, [])).2 ∧ (Lit.int .i64 (ps.getD j (0, [])).1).wf = true
theorem SPo.below {w w' : World} {A : Option Addr} {n c : Nat} {ps : List Po} (h : SPo w A n c ps) (hb : Below w.heap.size w w') : SPo w' A n c ps :=
  ⟨h.len, h.small, h.nil, h.cap, fun hn => by
    obtain ⟨ad, e, hl, hc⟩ := h.mem hn
    refine ⟨ad, e, Nat.lt_of_lt_of_le hl hb.size, fun j hj => ?_⟩
    obtain ⟨B, m, d, h1, h2, h3, h4⟩ := hc j hj
    exact ⟨B, m, d, (hb.cell (p := ad.add (j * 2)) (by rw [block_of_add]; exact hl)).trans h1, (hb.cell (p := ⟨(ad.add (j * 2)).block, (ad.add (j * 2)).off + 1, none⟩) (by show (ad.add (j * 2)).block < _; rw [block_of_add]; exact hl)).trans h2, h3.below hb, h4⟩⟩
/-- A slice of slices of polynomials. -/
structure SPP (w : World) (A : Option Addr) (n c : Nat) (pss : List (List Po)) : Prop where
  len : pss.length = n
  small : n ≤ 17592186044416
  nil : A = none → n = 0 ∧ c = 0
  cap : n ≤ c
  mem : 0 < n → ∃ ad, A = some ad ∧ ad.block < w.heap.size ∧ ∀ j, j < n → ∃ B m d, w.cell? (ad.add j) = some (.slice B m d) ∧ SPo w B m d (pss.getD j [])
theorem SPP.below {w w' : World} {A : Option Addr} {n c : Nat} {pss : List (List Po)} (h : SPP w A n c pss) (hb : Below w.heap.size w w') : SPP w' A n c pss :=
  ⟨h.len, h.small, h.nil, h.cap, fun hn => by
    obtain ⟨ad, e, hl, hc⟩ := h.mem hn
    refine ⟨ad, e, Nat.lt_of_lt_of_le hl hb.size, fun j hj => ?_⟩
    obtain ⟨B, m, d, h1, h2⟩ := hc j hj
    exact ⟨B, m, d, (hb.cell (p := ad.add j) (by rw [block_of_add]; exact hl)).trans h1, h2.below hb⟩⟩
theorem SPP.at_ {w : World} {A : Option Addr} {n c k : Nat} {pss : List (List Po)} (h : SPP w A n c pss) (hk : k < n) : ∃ ad B m d, A = some ad ∧ w.cell? (ad.add k) = some (.slice B m d) ∧ SPo w B m d (pss.getD k []) := by
  obtain ⟨ad, e, _, hc⟩ := h.mem (by omega)
  obtain ⟨B, m, d, h1, h2⟩ := hc k hk
  exact ⟨ad, B, m, d, e, h1, h2⟩
theorem SPo.at_ {w : World} {A : Option Addr} {n c k : Nat} {ps : List Po} (h : SPo w A n c ps) (hk : k < n) : ∃ ad B m d, A = some ad ∧ w.cell? (ad.add (k * 2)) = some (.int .i64 (ps.getD k (0, [])).1) ∧ w.cell? ⟨(ad.add (k * 2)).block, (ad.add (k * 2)).off + 1, none⟩ = some (.slice B m d) ∧ SL w B m d (ps.getD k (0, [])).2 ∧ (Lit.int .i64 (ps.getD k (0, [])).1).wf = true := by
  obtain ⟨ad, e, _, hc⟩ := h.mem (by omega)
  obtain ⟨B, m, d, h1, h2, h3, h4⟩ := hc k hk
  exact ⟨ad, B, m, d, e, h1, h2, h3, h4⟩
end Go.Proofs.Ytndgffiihbdppaa
/- timbref1.PolyFault and Fits. -/
namespace Go.Proofs.Ytndgffiihbdppaa
set_option linter.unusedVariables false
set_option linter.unusedSimpArgs false
open Go.RowKit

theorem LP.pfl_big {lo : Int} {xs : List Int} (h : 200 < xs.length ∨ 1000 < lo ∨ lo < -1000) : LP.pfl lo xs = 2 := by unfold LP.pfl; rw [if_pos h]
theorem LP.pfl_bad {lo : Int} {xs : List Int} (h : ¬ (200 < xs.length ∨ 1000 < lo ∨ lo < -1000)) (h2 : (xs.length = 0 ∧ lo ≠ 0) ∨ (0 < xs.length ∧ (xs.getD 0 0 = 0 ∨ xs.getD (xs.length - 1) 0 = 0))) : LP.pfl lo xs = 3 := by unfold LP.pfl; rw [if_neg h, if_pos h2]
theorem LP.pfl_loop {lo : Int} {xs : List Int} (h : ¬ (200 < xs.length ∨ 1000 < lo ∨ lo < -1000)) (h2 : ¬ ((xs.length = 0 ∧ lo ≠ 0) ∨ (0 < xs.length ∧ (xs.getD 0 0 = 0 ∨ xs.getD (xs.length - 1) 0 = 0)))) : LP.pfl lo xs = if xs.all LP.okC then 0 else 1 := by unfold LP.pfl; rw [if_neg h, if_neg h2]
/-- The results of a function that returns a polynomial out of a block and an error. -/
theorem results_pe {fn : Func} {t u : Tmp} {b : Nat} {v0 v1 e : Value} {w : World} (h : fn.results = #[.cell t 36, .tmp u]) (tmps : Array Value) (ht : tmps.getD t undef = .pointer (some ⟨b, 0, none⟩)) (hu : tmps.getD u undef = e) (hb : Blk w b 36 #[v0, v1]) :
    (results fn tmps).run Try.prog w = .ok (.tuple #[.agg #[v0, v1], e]) w := by
  have h0 := hb.cell 0
  have h1 := hb.cell 1
  simp at h0 h1
  have ht2 : tmps[t]?.getD undef = .pointer (some ⟨b, 0, none⟩) := by simpa using ht
  have hu2 : tmps[u]?.getD undef = e := by simpa using hu
  simp [results, h, ht2, hu2, go_sem, h0, h1, Result.andThen]
/-- What Fits makes of a polynomial. -/
def LP.fitL (lo : Int) (cs : List Int) : PR := if pfl lo cs = 0 then (0, lo, cs) else (2, 0, [])
end Go.Proofs.Ytndgffiihbdppaa
/- The matrices of timbkeep1.PolyDetRows: entries, determinants of triangular matrices. -/
namespace Go.Proofs.Ytndgffiihbdppaa
set_option linter.unusedVariables false
set_option linter.unusedSimpArgs false

section
open CR
variable {R : Type} [CR R]
end

noncomputable def cP (x : LP) : Po := ((LP.canon x).1, (LP.canon x).2)
end Go.Proofs.Ytndgffiihbdppaa
/- What package braid's functions are to answer. -/
namespace Go.Proofs.Ytndgffiihbdppaa
set_option linter.unusedVariables false
set_option linter.unusedSimpArgs false
open Go.RowKit

def permE (n : Int) (w : List Int) : List Int := if bfault n w = 0 then zs (endsL n.toNat w) else []
def expoB (n : Int) (w : List Int) : Int := if bfault n w = 0 then LP.expo w else 0
def invB (n : Int) (w : List Int) : List Int := if bfault n w = 0 then invw w else []
def burE (n : Int) (w : List Int) : Int := if bfault n w = 0 then (if 16 < w.length then 2 else 0) else bfault n w
noncomputable def buL (n : Nat) (w : List Int) : List (List Po) := (List.range n).map fun i => (List.range n).map fun j => cP (bu n w i j)
noncomputable def burL (n : Int) (w : List Int) : List (List Po) := if burE n w = 0 then buL n.toNat w else []
/-- A matrix and an error. -/
def GivesMP (w : World) (err : Int) (pss : List (List Po)) (e : Ending) (w' : World) : Prop :=
  ∃ A n c, e = .returned (.tuple #[.slice A n c, .int .i64 err]) ∧ SPP w' A n c pss ∧ Below w.heap.size w w'
/-- Package braid, as the document asks. -/
structure BraidC : Prop where
  check : ∀ (m : Int) (A : Option Addr) (n c : Nat) (xs : List Int) (w : World), SL w A n c xs → (Lit.int .i64 m).wf = true → Calls Try.prog 55 #[.int .i64 m, .slice A n c] w fun e w' => e = .returned (.int .i64 (bfault m xs)) ∧ Below w.heap.size w w'
  perm : ∀ (m : Int) (A : Option Addr) (n c : Nat) (xs : List Int) (w : World), SL w A n c xs → (Lit.int .i64 m).wf = true → Calls Try.prog 29 #[.int .i64 m, .slice A n c] w (GivesLE w (bfault m xs) (permE m xs))
  expo : ∀ (m : Int) (A : Option Addr) (n c : Nat) (xs : List Int) (w : World), SL w A n c xs → (Lit.int .i64 m).wf = true → Calls Try.prog 27 #[.int .i64 m, .slice A n c] w fun e w' => e = .returned (.tuple #[.int .i64 (expoB m xs), .int .i64 (bfault m xs)]) ∧ Below w.heap.size w w'
  inverse : ∀ (m : Int) (A : Option Addr) (n c : Nat) (xs : List Int) (w : World), SL w A n c xs → (Lit.int .i64 m).wf = true → Calls Try.prog 26 #[.int .i64 m, .slice A n c] w (GivesLE w (bfault m xs) (invB m xs))
  burau : ∀ (m : Int) (A : Option Addr) (n c : Nat) (xs : List Int) (w : World), SL w A n c xs → (Lit.int .i64 m).wf = true → Calls Try.prog 82 #[.int .i64 m, .slice A n c] w (GivesMP w (burE m xs) (burL m xs))

end Go.Proofs.Ytndgffiihbdppaa
/- Where strands end: permutations of braid words (mathematics). -/
namespace Go.Proofs.Ytndgffiihbdppaa
set_option linter.unusedVariables false
set_option linter.unusedSimpArgs false

theorem endsL_getD {n j : Nat} (w : List Int) (hj : j < n) : (endsL n w).getD j 0 = endE w j := by
  simp [endsL, List.getD, hj]
theorem endE_inj {w : List Int} (h : ∀ x ∈ w, x ≠ 0) {s t : Nat} (e : endE w s = endE w t) : s = t := by
  have h1 := endE_inv w h s
  have h2 := endE_inv w h t
  rw [endE_append] at h1 h2
  rw [← h1, e, h2]
theorem ends_isP {n : Nat} {w : List Int} (h : okB n w) : isP (endsL n w) := by
  refine ⟨fun x hx => ?_, ?_⟩
  · rw [endsL_length]
    obtain ⟨s, hs, rfl⟩ := List.mem_map.1 hx
    exact endE_lt h (List.mem_range.1 hs)
  · unfold endsL
    rw [List.nodup_iff_pairwise_ne, List.pairwise_map]
    exact List.nodup_range.imp fun hne e => hne (endE_inj (fun x hx => (h x hx).1) e)
theorem ends_comp {n : Nat} {x y : List Int} (hx : okB n x) : comp (endsL n x) (endsL n y) = endsL n (x ++ y) := by
  refine list_ext_getD (by rw [comp_length, endsL_length, endsL_length]) fun j hj => ?_
  rw [comp_length, endsL_length] at hj
  rw [comp_getD (by rw [endsL_length]; exact hj), endsL_getD x hj, endsL_getD y (endE_lt hx hj), endsL_getD (x ++ y) hj, endE_append]
end Go.Proofs.Ytndgffiihbdppaa
/- What package link is to answer. -/
namespace Go.Proofs.Ytndgffiihbdppaa
set_option linter.unusedVariables false
set_option linter.unusedSimpArgs false
open Go.RowKit

/-- The components of a closed braid. -/
def lkL (n : Int) (w : List Int) : List (List Int) := if bfault n w = 0 then (prtL (endsL n.toNat w)).map zs else []
/-- Where the component of a strand stands. -/
def lkAt (a : List Nat) (s : Nat) : Nat := (prtL a).findIdx fun c => decide (s ∈ c)
/-- The strand at a position behind a word. -/
def lkS (n : Nat) (w : List Int) (p : Nat) : Nat := (endsL n w).idxOf p
/-- What the crossings between two components add up to, each counted from both sides. -/
def lkSum (n : Nat) (a : List Nat) (i k : Nat) : List Int → List Int → Int
  | _, [] => 0
  | u, x :: w =>
    let s := lkAt a (lkS n u (x.natAbs - 1))
    let t := lkAt a (lkS n u x.natAbs)
    ((if s = i ∧ t = k then x.sign else 0) + (if t = i ∧ s = k then x.sign else 0)) + lkSum n a i k (u ++ [x]) w
/-- The linking numbers. -/
def lkM (n : Int) (w : List Int) : List (List Int) :=
  if bfault n w = 0 then (List.range (prtL (endsL n.toNat w)).length).map fun i => (List.range (prtL (endsL n.toNat w)).length).map fun k => (lkSum n.toNat (endsL n.toNat w) i k [] w).tdiv 2 else []
def lkK (n : Int) (w : List Int) : Bool := decide (bfault n w = 0) && decide ((prtL (endsL n.toNat w)).length = 1)
/-- Lists of lists and an error. -/
def GivesLK (w : World) (err : Int) (xss : List (List Int)) (e : Ending) (w' : World) : Prop :=
  ∃ A n c, e = .returned (.tuple #[.slice A n c, .int .i64 err]) ∧ SLL w' A n c xss ∧ Below w.heap.size w w'
/-- Package link, as the document asks. -/
structure LinkC : Prop where
  parts : ∀ (m : Int) (A : Option Addr) (n c : Nat) (xs : List Int) (w : World), SL w A n c xs → (Lit.int .i64 m).wf = true → Calls Try.prog 8 #[.int .i64 m, .slice A n c] w (GivesLK w (bfault m xs) (lkL m xs)) -- 8
  link : ∀ (m : Int) (A : Option Addr) (n c : Nat) (xs : List Int) (w : World), SL w A n c xs → (Lit.int .i64 m).wf = true → Calls Try.prog 9 #[.int .i64 m, .slice A n c] w (GivesLK w (bfault m xs) (lkM m xs)) -- 9
  knot : ∀ (m : Int) (A : Option Addr) (n c : Nat) (xs : List Int) (w : World), SL w A n c xs → (Lit.int .i64 m).wf = true → Calls Try.prog 10 #[.int .i64 m, .slice A n c] w fun e w' => e = .returned (.tuple #[.bool (lkK m xs), .int .i64 (bfault m xs)]) ∧ Below w.heap.size w w' -- 10
theorem lkL_len {n : Nat} {w : List Int} (h : bfault (n : Int) w = 0) : (lkL (n : Int) w).length = (prtL (endsL n w)).length := by
  unfold lkL
  rw [if_pos h, List.length_map, Int.toNat_natCast]
theorem lkK_ok {n : Nat} {w : List Int} (h : bfault (n : Int) w = 0) : lkK (n : Int) w = decide ((prtL (endsL n w)).length = 1) := by
  unfold lkK
  rw [decide_eq_true h, Bool.true_and, Int.toNat_natCast]
theorem prtL_le (a : List Nat) : (prtL a).length ≤ a.length := by
  unfold prtL
  rw [List.length_map]
  refine Nat.le_trans (List.length_filter_le _ _) (by rw [List.length_range]; exact Nat.le_refl _)
end Go.Proofs.Ytndgffiihbdppaa
/- The bracket as a sum over choices: mirrored, backwards, JONES's relation, bounds (mathematics of stage 13). -/
namespace Go.Proofs.Ytndgffiihbdppaa
set_option linter.unusedVariables false
set_option linter.unusedSimpArgs false

def sgx (x : Int) : Int := if 0 < x then 1 else -1
theorem sgx_abs (x : Int) : (sgx x).natAbs = 1 := by unfold sgx; split <;> rfl
/-- The sum over all choices for the letters of a word. -/
noncomputable def tS (n : Nat) : (List (List Nat) → LP) → List Int → LP
  | F, [] => F []
  | F, x :: w => LP.term (sgx x) 1 * tS n (fun l => F (Tl.straight n :: l)) w + LP.term (-sgx x) 1 * tS n (fun l => F (Tl.hook n x.natAbs :: l)) w
/-- -A^2 - A^-2 to a power. -/
noncomputable def dlt : Nat → LP
  | 0 => 1
  | k + 1 => dlt k * (LP.term 2 (-1) + LP.term (-2) (-1))
def actS (n : Nat) (l : List (List Nat)) : List Nat × Nat := Tl.act n (Tl.straight n, 0) l
/-- The loops of a closed stack. -/
def lps (n : Nat) (l : List (List Nat)) : Nat := (actS n l).2 + Tl.cir n (actS n l).1
noncomputable def brk (n : Nat) (w : List Int) : LP := tS n (fun l => dlt (lps n l - 1)) w
/-- A choice for the letters of a word. -/
def Ch (n : Nat) : List Int → List (List Nat) → Prop
  | [], l => l = []
  | x :: w, l => ∃ g m, l = g :: m ∧ (g = Tl.straight n ∨ g = Tl.hook n x.natAbs) ∧ Ch n w m
theorem hook_gens {n i : Nat} (h0 : 1 ≤ i) (h1 : i < n) : Tl.hook n i ∈ Tl.gens n := by
  unfold Tl.gens
  exact List.mem_cons_of_mem _ (List.mem_map.2 ⟨i - 1, List.mem_range.2 (by omega), by rw [show i - 1 + 1 = i by omega]⟩)
theorem straight_gens (n : Nat) : Tl.straight n ∈ Tl.gens n := by unfold Tl.gens; simp
theorem Ch.wd {n : Nat} : ∀ {w : List Int} {l : List (List Nat)}, (∀ x ∈ w, x ≠ 0 ∧ x.natAbs < n) → Ch n w l → Tl.Wd n l
  | [], l, _, h => by
    have : l = [] := h
    subst this
    intro g hg
    cases hg
  | x :: w, l, hw, h => by
    obtain ⟨g, m, rfl, hg, hm⟩ := h
    intro y hy
    rcases List.mem_cons.1 hy with e | hy
    · subst e
      have hx := hw x (by simp)
      rcases hg with e | e <;> subst e
      · exact straight_gens n
      · exact hook_gens (by omega) hx.2
    · exact Ch.wd (fun z hz => hw z (by simp [hz])) hm y hy
theorem tS_congr {n : Nat} : ∀ {w : List Int} {F G : List (List Nat) → LP}, (∀ l, Ch n w l → F l = G l) → tS n F w = tS n G w
  | [], F, G, h => h [] rfl
  | x :: w, F, G, h => by
    show LP.term _ _ * tS n _ w + LP.term _ _ * tS n _ w = LP.term _ _ * tS n _ w + LP.term _ _ * tS n _ w
    rw [tS_congr (F := fun l => F (Tl.straight n :: l)) (G := fun l => G (Tl.straight n :: l)) (fun l hl => h _ ⟨_, l, rfl, .inl rfl, hl⟩), tS_congr (F := fun l => F (Tl.hook n x.natAbs :: l)) (G := fun l => G (Tl.hook n x.natAbs :: l)) (fun l hl => h _ ⟨_, l, rfl, .inr rfl, hl⟩)]
theorem quad {R : Type} [CR R] (a b c d P Q S T : R) : a * (c * P + d * Q) + b * (c * S + d * T) = c * (a * P + b * S) + d * (a * Q + b * T) := by
  rw [CR.mul_add, CR.mul_add, CR.mul_add, CR.mul_add]
  rw [← CR.mul_assoc a c, ← CR.mul_assoc a d, ← CR.mul_assoc b c, ← CR.mul_assoc b d, CR.mul_comm a c, CR.mul_comm a d, CR.mul_comm b c, CR.mul_comm b d]
  rw [CR.mul_assoc, CR.mul_assoc, CR.mul_assoc, CR.mul_assoc]
  generalize c * (a * P) = p1
  generalize d * (a * Q) = p2
  generalize c * (b * S) = p3
  generalize d * (b * T) = p4
  rw [CR.add_assoc, CR.add_assoc, ← CR.add_assoc p2, CR.add_comm p2, CR.add_assoc]
theorem tS_snoc {n : Nat} (x : Int) : ∀ (w : List Int) (F : List (List Nat) → LP), tS n F (w ++ [x]) = LP.term (sgx x) 1 * tS n (fun l => F (l ++ [Tl.straight n])) w + LP.term (-sgx x) 1 * tS n (fun l => F (l ++ [Tl.hook n x.natAbs])) w
  | [], F => rfl
  | y :: w, F => by
    show LP.term _ _ * tS n _ (w ++ [x]) + LP.term _ _ * tS n _ (w ++ [x]) = _
    rw [tS_snoc x w, tS_snoc x w, quad]
    rfl
/-! ### loops -/
theorem actS_plan {n : Nat} (h1 : 1 ≤ n) (h6 : n ≤ 6) {l : List (List Nat)} (h : Tl.Wd n l) : (actS n l).1 ∈ Tl.plan n := (Tl.stk_act h1 h6 (Tl.gens_plan h1 h6 (straight_gens n)).1 l h).2.2.2
theorem actS_snoc {n : Nat} (l : List (List Nat)) (g : List Nat) : actS n (l ++ [g]) = ((Tl.mul n (actS n l).1 g).1, (actS n l).2 + (Tl.mul n (actS n l).1 g).2) := Tl.act_snoc n _ l g
/-! ### mirrored, backwards -/
/-! ### JONES -/
/-! ### bounds -/
def hkN (n : Nat) (l : List (List Nat)) : Nat := l.countP fun g => !Tl.eqL g (Tl.straight n)
theorem eqL_refl : ∀ l, Tl.eqL l l = true
  | [] => rfl
  | x :: l => by rw [Tl.eqL, Nat.beq_refl]; exact eqL_refl l
theorem hkN_straight (n : Nat) (l : List (List Nat)) : hkN n (Tl.straight n :: l) = hkN n l := by unfold hkN; rw [List.countP_cons_of_neg (by rw [eqL_refl]; simp)]
theorem hkN_cons (n : Nat) (g : List Nat) (l : List (List Nat)) : hkN n (g :: l) ≤ hkN n l + 1 := by unfold hkN; rw [List.countP_cons]; split <;> omega
theorem cir_straight : (List.range 7).all (fun n => n == 0 || Tl.cir n (Tl.straight n) == n) = true := by decide +kernel
theorem lps_le {n : Nat} (h1 : 1 ≤ n) (h6 : n ≤ 6) (l : List (List Nat)) : Tl.Wd n l → lps n l ≤ n + hkN n l := by
  induction l using Tl.snocI with
  | h0 =>
    intro _
    have h2 := cir_straight
    rw [List.all_eq_true] at h2
    have h3 := h2 n (List.mem_range.2 (by omega))
    simp only [Bool.or_eq_true, beq_iff_eq] at h3
    show 0 + Tl.cir n (Tl.straight n) ≤ _
    omega
  | h1 l g ih =>
    intro h
    have hl : Tl.Wd n l := fun y hy => h y (by simp [hy])
    have hg : g ∈ Tl.gens n := h g (by simp)
    have ih := ih hl
    have hp := actS_plan h1 h6 hl
    have hk : hkN n (l ++ [g]) = hkN n l + hkN n [g] := by unfold hkN; rw [List.countP_append]
    have hlp : lps n (l ++ [g]) = (actS n l).2 + (Tl.mul n (actS n l).1 g).2 + Tl.cir n (Tl.mul n (actS n l).1 g).1 := by unfold lps; rw [actS_snoc]
    have h0 : lps n l = (actS n l).2 + Tl.cir n (actS n l).1 := rfl
    rw [hk, hlp]
    by_cases e : g = Tl.straight n
    · subst e
      rw [(Tl.unit_r h6 hp).1]
      simp only
      omega
    · have h3 := ((Tl.plan_jon h6 hp hg).1).loops
      have h4 : hkN n [g] = 1 := by
        unfold hkN
        rw [List.countP_cons_of_pos, List.countP_nil]
        cases he : Tl.eqL g (Tl.straight n) with
        | true => exact absurd (Tl.eqL_spec he) e
        | false => rfl
      omega
theorem dlt_n1 : ∀ k, LP.N1 (dlt k) (2 * k) (2 ^ k)
  | 0 => LP.N1.one
  | k + 1 => by
    have h := (dlt_n1 k).mul (LP.N1.add (LP.N1.term 2 (-1)) (LP.N1.term (-2) (-1)))
    exact h.mono (by show 2 * k + 2 ≤ _; omega) (by rw [Nat.pow_succ]; exact Nat.le_refl _)
theorem tS_n1 {n : Nat} : ∀ {w : List Int} {F : List (List Nat) → LP} {E K : Nat}, (∀ l, Ch n w l → LP.N1 (F l) E (2 ^ (K + hkN n l))) → LP.N1 (tS n F w) (E + w.length) (2 ^ K * 3 ^ w.length)
  | [], F, E, K, h => (h [] rfl).mono (Nat.le_refl _) (by simp [hkN])
  | x :: w, F, E, K, h => by
    have h1 := tS_n1 (n := n) (w := w) (F := fun l => F (Tl.straight n :: l)) (E := E) (K := K) fun l hl => by
      have := h _ ⟨_, l, rfl, .inl rfl, hl⟩
      rwa [hkN_straight] at this
    have h2 := tS_n1 (n := n) (w := w) (F := fun l => F (Tl.hook n x.natAbs :: l)) (E := E) (K := K + 1) fun l hl => by
      have := h _ ⟨_, l, rfl, .inr rfl, hl⟩
      exact this.mono (Nat.le_refl _) (Nat.pow_le_pow_right (by omega) (by have := hkN_cons n (Tl.hook n x.natAbs) l; omega))
    have a1 := (LP.N1.term (sgx x) 1).mul h1
    have a2 := (LP.N1.term (-sgx x) 1).mul h2
    rw [sgx_abs] at a1
    rw [Int.natAbs_neg, sgx_abs] at a2
    refine (a1.add a2).mono (by rw [List.length_cons]; omega) ?_
    rw [List.length_cons, Nat.pow_succ, Nat.pow_succ]
    have e : (1 : Int).natAbs = 1 := rfl
    rw [e]
    generalize 3 ^ w.length = y
    generalize 2 ^ K = z
    rw [Nat.one_mul, Nat.one_mul, ← Nat.mul_assoc, Nat.mul_assoc z 2 y, Nat.mul_comm 2 y, ← Nat.mul_assoc]
    omega
theorem brk_n1 {n : Nat} (h1 : 1 ≤ n) (h6 : n ≤ 6) {w : List Int} (hw : ∀ x ∈ w, x ≠ 0 ∧ x.natAbs < n) (hl : w.length ≤ 12) : LP.N1 (brk n w) (34 + w.length) (32 * 3 ^ w.length) := by
  have hk : ∀ {w : List Int} {l : List (List Nat)}, Ch n w l → l.length = w.length := fun {w} => by
    induction w with
    | nil => intro l h; have : l = [] := h; rw [this]; rfl
    | cons x w ih =>
      intro l h
      obtain ⟨g, m, rfl, _, hm⟩ := h
      rw [List.length_cons, List.length_cons, ih hm]
  exact tS_n1 (K := 5) fun l hc => by
    have h2 := lps_le h1 h6 l (hc.wd hw)
    have h3 : hkN n l ≤ l.length := List.countP_le_length
    have h4 := hk hc
    exact (dlt_n1 _).mono (by omega) (Nat.pow_le_pow_right (by omega) (by omega))
/-- The Jones polynomial. -/
noncomputable def jon (n : Nat) (w : List Int) : LP := brk n w * LP.term (-3 * LP.expo w) (if LP.expo w % 2 = 0 then 1 else -1)
theorem jon_n1 {n : Nat} (h1 : 1 ≤ n) (h6 : n ≤ 6) {w : List Int} (hw : ∀ x ∈ w, x ≠ 0 ∧ x.natAbs < n) (hl : w.length ≤ 12) : LP.N1 (jon n w) (34 + 4 * w.length) (32 * 3 ^ w.length) := by
  have h := (brk_n1 h1 h6 hw hl).mul (LP.N1.term (-3 * LP.expo w) (if LP.expo w % 2 = 0 then 1 else -1))
  have h2 := LP.expo_le w
  refine h.mono (by omega) ?_
  have e : (if LP.expo w % 2 = 0 then (1 : Int) else -1).natAbs = 1 := by split <;> rfl
  rw [e, Nat.mul_one]
  exact Nat.le_refl _
end Go.Proofs.Ytndgffiihbdppaa
/- What package jones is to answer. -/
namespace Go.Proofs.Ytndgffiihbdppaa
set_option linter.unusedVariables false
set_option linter.unusedSimpArgs false
open Go.RowKit

def joE (m : Int) (w : List Int) : Int := if bfault m w ≠ 0 then bfault m w else if 12 < w.length then 2 else 0
noncomputable def joB (m : Int) (w : List Int) : LP := if joE m w = 0 then brk m.toNat w else 0
noncomputable def joP (m : Int) (w : List Int) : LP := if joE m w = 0 then jon m.toNat w else 0
/-- Package jones, as the document asks. -/
structure JonesC : Prop where
  bracket : ∀ (m : Int) (A : Option Addr) (n c : Nat) (xs : List Int) (w : World), SL w A n c xs → (Lit.int .i64 m).wf = true → Calls Try.prog 50 #[.int .i64 m, .slice A n c] w (GivesPE w (joE m xs, (LP.canon (joB m xs)).1, (LP.canon (joB m xs)).2)) -- 50
  poly : ∀ (m : Int) (A : Option Addr) (n c : Nat) (xs : List Int) (w : World), SL w A n c xs → (Lit.int .i64 m).wf = true → Calls Try.prog 17 #[.int .i64 m, .slice A n c] w (GivesPE w (joE m xs, (LP.canon (joP m xs)).1, (LP.canon (joP m xs)).2)) -- 17
theorem lps_21 : lps 2 [Tl.straight 2] = 2 ∧ lps 2 [Tl.hook 2 1] = 1 := by decide +kernel
/-- On 2 strands, the bracket of [1] is -A^3. -/
theorem brk_21 : brk 2 [1] = LP.term 3 (-1) := by
  show LP.term (sgx 1) 1 * dlt (lps 2 [Tl.straight 2] - 1) + LP.term (-sgx 1) 1 * dlt (lps 2 [Tl.hook 2 1] - 1) = _
  rw [lps_21.1, lps_21.2]
  have e : sgx 1 = 1 := rfl
  rw [e]
  show LP.term 1 1 * (1 * (LP.term 2 (-1) + LP.term (-2) (-1))) + LP.term (-1) 1 * 1 = _
  refine LP.ext fun k => ?_
  rw [CR.one_mul, CR.mul_one]
  simp only [LP.co_add, LP.co_term_mul, LP.co_term]
  grind
theorem jon_21 : jon 2 [1] = LP.term 0 1 := by
  unfold jon
  rw [brk_21]
  show LP.term 3 (-1) * LP.term (-3 * LP.expo [1]) (if LP.expo [1] % 2 = 0 then 1 else -1) = _
  have e : LP.expo [1] = 1 := rfl
  rw [e, LP.term_mul]
  rfl
theorem joE_21 : joE 2 [1] = 0 := by decide
theorem joB_21 : (LP.canon (joB 2 [1])).1 = 3 ∧ (LP.canon (joB 2 [1])).2 = [-1] := by
  unfold joB
  rw [if_pos joE_21]
  show (LP.canon (brk 2 [1])).1 = 3 ∧ (LP.canon (brk 2 [1])).2 = [-1]
  rw [brk_21, ← LP.of_one, LP.canon_term 3 (-1) (.inr rfl)]
  exact ⟨rfl, rfl⟩
theorem joP_21 : (LP.canon (joP 2 [1])).1 = 0 ∧ (LP.canon (joP 2 [1])).2 = [1] := by
  unfold joP
  rw [if_pos joE_21]
  show (LP.canon (jon 2 [1])).1 = 0 ∧ (LP.canon (jon 2 [1])).2 = [1]
  rw [jon_21, ← LP.of_one, LP.canon_term 0 1 (.inl rfl)]
  exact ⟨rfl, rfl⟩
theorem okB_nat {n : Nat} {w : List Int} (h : okB n w) : ∀ x ∈ w, x ≠ 0 ∧ x.natAbs < n := fun x hx => h x hx
theorem joE_ok {n : Nat} {w : List Int} (h1 : 1 ≤ n) (h6 : n ≤ 6) (hw : okB n w) (hl : w.length ≤ 12) : joE (n : Int) w = 0 := by
  unfold joE
  have hb : bfault (n : Int) w = 0 := bfault_ok (by omega) (by omega) (by omega) fun x hx => by have := okB_nat hw x hx; omega
  rw [hb, if_neg (by simp), if_neg (by omega)]
theorem joP_ok {n : Nat} {w : List Int} (h1 : 1 ≤ n) (h6 : n ≤ 6) (hw : okB n w) (hl : w.length ≤ 12) : joP (n : Int) w = jon n w := by
  unfold joP
  rw [if_pos (joE_ok h1 h6 hw hl), Int.toNat_natCast]
theorem jon_rt {n : Nat} {w : List Int} (h1 : 1 ≤ n) (h6 : n ≤ 6) (hw : okB n w) (hl : w.length ≤ 12) : LP.Rt (jon n w) := by
  refine (jon_n1 h1 h6 (okB_nat hw) hl).rt (by omega) ?_
  have := Nat.pow_le_pow_right (show 0 < 3 by omega) hl
  omega
end Go.Proofs.Ytndgffiihbdppaa
