/- Several texts in one. -/
import Derived.Test.YtmeicmhojingfaaPart4
import Derived.Test.YtmeicmhojingfaaBase1
import Derived.Test.YtmeicmhojingfaaPart1
import Derived.BigQuiet
import Derived.Deep.DeepCutAuto
/- timbref1.Stack. -/
namespace Go.Proofs.Ytmeicmhojingfaa
set_option linter.unusedVariables false
set_option linter.unusedSimpArgs false
open Go.RowKit Go.Maps

theorem points_any (n : Nat) (w : World) (hn : n ≤ 1000000) : Calls Try.prog 59 #[.int .i64 n] w (GivesOwn w (zs (List.range n))) := by
  have HC := hide (row_any n w hn)
  go_enter Try.func59, Try.ntmps59
  go_wp2_with fail
  refine HC.out.mono ?_
  rintro e w1 ⟨A, m, c, rfl, ho, hb⟩
  have HO := hide ho
  have HB := hide hb
  clear ho hb
  go_wp2_with fail
  go_ret
  exact ⟨_, _, _, rfl, HO.out, HB.out⟩

set_option maxRecDepth 100000 in
theorem outerF_any (n m i b0 b1 : Nat) (w : World) (h0 : Blk w b0 3 #[.int .i64 n]) (h1 : Blk w b1 3 #[.int .i64 m]) (hn : n ≤ 1000) (hm : m ≤ 1000) (hi : i < 2 * n) :
    Calls Try.prog 61 #[.int .i64 i, .pointer (some ⟨b0, 0, none⟩), .pointer (some ⟨b1, 0, none⟩)] w fun e w' => e = .returned (.int .i64 (Tl.outer n m i : Nat)) ∧ w = w' := by
  have c0 := h0.cell 0
  have c1 := h1.cell 0
  simp at c0 c1
  clear h0 h1
  by_cases h : i < n
  · have HE : Hid (Tl.outer n m i = i) := hide (by unfold Tl.outer; rw [if_pos h])
    have hd : decide ((i : Int) < (n : Int)) = true := decide_eq_true (by omega)
    go_enter Try.func61, Try.ntmps61
    go_wp2_with fail
    go_ret
    rw [HE.out]
    exact ⟨rfl, rfl⟩
  · have hd : decide ((i : Int) < (n : Int)) = false := decide_eq_false (by omega)
    obtain ⟨P, hP⟩ : ∃ P : Nat, n * m = P := ⟨_, rfl⟩
    have hPle : P ≤ 1000000 := by rw [← hP]; exact Nat.le_trans (Nat.mul_le_mul hn hm) (by omega)
    have hPi : (n : Int) * (m : Int) = (P : Int) := by rw [← hP]; simp
    obtain ⟨S, hS⟩ : ∃ S : Nat, P + i = S := ⟨_, rfl⟩
    obtain ⟨T, hT⟩ : ∃ T : Nat, S - n = T := ⟨_, rfl⟩
    have w1 : IntKind.i64.wrap ((n : Int) * (m : Int)) = (P : Int) := by rw [hPi, IntKind.wrap_i64]; omega
    have w2 : IntKind.i64.wrap ((P : Int) + (i : Int)) = (S : Int) := by rw [IntKind.wrap_i64]; omega
    have w3 : IntKind.i64.wrap ((S : Int) - (n : Int)) = (T : Int) := by rw [IntKind.wrap_i64]; omega
    have HE : Hid (Tl.outer n m i = T) := hide (by unfold Tl.outer; rw [if_neg h, hP, hS, hT])
    clear hP hPi hS hT
    go_enter Try.func61, Try.ntmps61
    go_wp2_with fail
    go_ret
    rw [HE.out]
    exact ⟨rfl, rfl⟩

/-! ### how far a stack has come -/
theorem Tl.edges_take (n : Nat) : ∀ (k0 k : Nat) (l : List (List Nat)), k < l.length → Tl.edges n k0 (l.take (k + 1)) = Tl.edges n k0 (l.take k) ++ Tl.lay ((k0 + k) * n) (l.getD k [])
  | k0, 0, d :: l, _ => by simp [Tl.edges]
  | k0, k + 1, d :: l, h => by
    show Tl.lay (k0 * n) d ++ Tl.edges n (k0 + 1) (l.take (k + 1)) = Tl.lay (k0 * n) d ++ Tl.edges n (k0 + 1) (l.take k) ++ _
    rw [Tl.edges_take n (k0 + 1) k l (by simpa using h), List.append_assoc, List.getD_cons_succ, show k0 + 1 + k = k0 + (k + 1) by omega]
theorem Tl.lay_take {o : Nat} {d : List Nat} {j : Nat} (hj : j < d.length) : (Tl.lay o d).take (j + 1) = (Tl.lay o d).take j ++ [(o + j, o + d.getD j 0)] := by
  have hl : j < (Tl.lay o d).length := by simpa [Tl.lay] using hj
  rw [List.take_succ_eq_append_getElem hl]
  congr 1
  simp [Tl.lay]
/-- The joins so far. -/
structure StJ (n : Nat) (es : List (Nat × Nat)) (N : Nat) (w wr : World) (base g c : Nat) : Prop where
  uf : ∃ par, UF par (Tl.joins (List.range N) es) ∧ OwnI wr base (some ⟨g, 0, none⟩) N c (zs par)
  below : Below g w wr
/-- How many numbers are among the first labels. -/
def Tl.seenN (lab : List Nat) (i : Nat) : Nat := (List.range lab.length).countP fun r => (lab.take i).contains r
theorem Tl.seenN_zero (lab : List Nat) : Tl.seenN lab 0 = 0 := by
  unfold Tl.seenN
  rw [List.countP_eq_zero]
  intro r _
  simp
theorem Tl.seenN_step {lab : List Nat} (h : Tl.Ok lab) {i : Nat} (hi : i < lab.length) : Tl.seenN lab (i + 1) = if (lab.take i).contains (Tl.at_ lab i) then Tl.seenN lab i else Tl.seenN lab i + 1 := by
  have e : lab.take (i + 1) = lab.take i ++ [Tl.at_ lab i] := by rw [List.take_succ_eq_append_getElem hi]; simp [Tl.at_, List.getD, hi]
  by_cases hc : (lab.take i).contains (Tl.at_ lab i) = true
  · rw [if_pos hc]
    unfold Tl.seenN
    refine List.countP_congr fun r _ => ?_
    rw [e, List.contains_iff_mem, List.contains_iff_mem, List.mem_append, List.mem_singleton]
    constructor
    · rintro (h1 | rfl)
      · exact h1
      · exact List.contains_iff_mem.1 hc
    · exact .inl
  · rw [if_neg hc]
    unfold Tl.seenN
    refine Tl.countP_but (h.lt i hi) ?_ ?_ ?_
    · rw [e, List.contains_iff_mem]; simp
    · exact Bool.eq_false_iff.2 hc
    · intro r hr
      rw [e]
      by_cases h1 : r ∈ lab.take i
      · rw [List.contains_iff_mem.2 h1, List.contains_iff_mem.2 (List.mem_append.2 (.inl h1))]
      · have k1 : (lab.take i).contains r = false := Bool.eq_false_iff.2 fun k => h1 (List.contains_iff_mem.1 k)
        have k2 : (lab.take i ++ [Tl.at_ lab i]).contains r = false := Bool.eq_false_iff.2 fun k => by
          rcases List.mem_append.1 (List.contains_iff_mem.1 k) with k | k
          · exact h1 k
          · exact hr (List.mem_singleton.1 k)
        rw [k1, k2]
theorem Tl.seenN_all {lab : List Nat} (h : Tl.Ok lab) : Tl.seenN lab lab.length = Tl.cnt lab := by
  unfold Tl.seenN Tl.cnt
  refine List.countP_congr fun r hr => ?_
  have hr := List.mem_range.1 hr
  rw [List.take_length, List.contains_iff_mem, beq_iff_eq]
  constructor
  · intro hm
    obtain ⟨j, hj, rfl⟩ := List.mem_iff_getElem.1 hm
    have := h.idem j hj
    rw [show Tl.at_ lab j = lab[j] by simp [Tl.at_, List.getD, hj]] at this
    exact this
  · intro e
    rw [← e]
    exact (show lab[r] ∈ lab from List.getElem_mem hr) |> fun k => by rw [show Tl.at_ lab r = lab[r] by simp [Tl.at_, List.getD, hr]]; exact k

/-- The map of the labels so far. -/
def Tl.fm (lab : List Nat) (i : Nat) : Value → Option Value
  | .int .i64 x => if 0 ≤ x ∧ (lab.take i).contains x.toNat = true then some (.bool true) else none
  | _ => none
theorem Tl.fm_at (lab : List Nat) (i r : Nat) : Tl.fm lab i (.int .i64 (r : Int)) = if (lab.take i).contains r = true then some (.bool true) else none := by
  show (if 0 ≤ (r : Int) ∧ (lab.take i).contains (r : Int).toNat = true then some (Value.bool true) else none) = _
  rw [Int.toNat_natCast]
  by_cases h : (lab.take i).contains r = true
  · rw [if_pos h, if_pos ⟨by omega, h⟩]
  · rw [if_neg h, if_neg (fun k => h k.2)]
theorem Tl.take_at {lab : List Nat} {i : Nat} (hi : i < lab.length) : lab.take (i + 1) = lab.take i ++ [Tl.at_ lab i] := by rw [List.take_succ_eq_append_getElem hi]; simp [Tl.at_, List.getD, hi]
theorem Tl.fm_new {lab : List Nat} {i : Nat} (hi : i < lab.length) : Tl.fm lab (i + 1) (.int .i64 (Tl.at_ lab i : Nat)) = some (.bool true) := by
  rw [Tl.fm_at, if_pos]
  rw [Tl.take_at hi, List.contains_iff_mem]
  simp
theorem Tl.fm_old {lab : List Nat} {i : Nat} (hi : i < lab.length) {v : Value} (hv : v ≠ .int .i64 (Tl.at_ lab i : Nat)) : Tl.fm lab (i + 1) v = Tl.fm lab i v := by
  unfold Tl.fm
  split
  · rename_i x
    by_cases h0 : 0 ≤ x
    · have hx : x.toNat ≠ Tl.at_ lab i := fun e => hv (by rw [← e, Int.toNat_of_nonneg h0])
      have he : (lab.take (i + 1)).contains x.toNat = (lab.take i).contains x.toNat := by
        rw [Tl.take_at hi]
        by_cases h1 : x.toNat ∈ lab.take i
        · rw [List.contains_iff_mem.2 h1, List.contains_iff_mem.2 (List.mem_append.2 (.inl h1))]
        · have k1 : (lab.take i).contains x.toNat = false := Bool.eq_false_iff.2 fun k => h1 (List.contains_iff_mem.1 k)
          have k2 : (lab.take i ++ [Tl.at_ lab i]).contains x.toNat = false := Bool.eq_false_iff.2 fun k => by
            rcases List.mem_append.1 (List.contains_iff_mem.1 k) with k | k
            · exact h1 k
            · exact hx (List.mem_singleton.1 k)
          rw [k1, k2]
      rw [he]
    · rw [if_neg (fun k => h0 k.1), if_neg (fun k => h0 k.1)]
  · rfl
theorem keyT : Keyed Try.prog 3 := int_keyed Try.underlying3
theorem wf_nat {x : Nat} (h : x < 1000000) : (Lit.int .i64 (x : Int)).wf = true := by
  simp [Lit.wf, IntKind.min, IntKind.max, IntKind.signed, IntKind.bits]
  omega
/-- The rows of a stack. -/
structure StL (w : World) (n : Nat) (A : Option Addr) (m : Nat) (l : List (List Nat)) : Prop where
  ill : ILL w A m (l.map zs)
  ok : ∀ d ∈ l, Tl.mtOk n d
theorem zss_getD (l : List (List Nat)) (k : Nat) : (l.map zs).getD k [] = zs (l.getD k []) := by
  by_cases h : k < l.length
  · simp [List.getD, h]
  · simp [List.getD, List.getElem?_eq_none (Nat.le_of_not_lt h), zs]
/-- The matching so far: rows before i are done, row i up to k. -/
def Tl.outP (n m : Nat) (lab : List Nat) (i k : Nat) : List Nat := (List.range (2 * n)).map fun a => if a < i then Tl.last (2 * n) (fun b => decide (a ≠ b) && decide (Tl.same lab (Tl.outer n m a) (Tl.outer n m b))) else if a = i then Tl.last k (fun b => decide (a ≠ b) && decide (Tl.same lab (Tl.outer n m a) (Tl.outer n m b))) else 0

theorem bne_ff {a b : Nat} (h : a = b) : ((a : Int) != (b : Int)) = false := by subst h; simp
theorem bne_tt {a b : Nat} (h : a ≠ b) : ((a : Int) != (b : Int)) = true := by simp; omega
theorem beq_tt {a b : Nat} (h : a = b) : ((a : Int) == (b : Int)) = true := by subst h; simp
theorem beq_ff {a b : Nat} (h : a ≠ b) : ((a : Int) == (b : Int)) = false := by simp; omega
/-- Are the outer points a, b joined (and two)? -/
def Tl.pr (n m : Nat) (lab : List Nat) (a b : Nat) : Bool := decide (a ≠ b) && decide (Tl.same lab (Tl.outer n m a) (Tl.outer n m b))
theorem Tl.outP_eq (n m : Nat) (lab : List Nat) (i k : Nat) : Tl.outP n m lab i k = (List.range (2 * n)).map fun a => if a < i then Tl.last (2 * n) (Tl.pr n m lab a) else if a = i then Tl.last k (Tl.pr n m lab a) else 0 := rfl
theorem Tl.outP_length (n m : Nat) (lab : List Nat) (i k : Nat) : (Tl.outP n m lab i k).length = 2 * n := by simp [Tl.outP]
theorem Tl.outP_zero (n m : Nat) (lab : List Nat) : Tl.outP n m lab 0 0 = List.replicate (2 * n) 0 := by
  rw [Tl.outP_eq]
  refine List.ext_getElem (by simp) fun j h1 h2 => ?_
  simp [Tl.last]
theorem Tl.last_succ (k : Nat) (p : Nat → Bool) : Tl.last (k + 1) p = if p k then k else Tl.last k p := by unfold Tl.last; rw [List.range_succ, List.foldl_append]; rfl
theorem Tl.outP_skip {n m : Nat} {lab : List Nat} {i k : Nat} (h : Tl.pr n m lab i k = false) : Tl.outP n m lab i (k + 1) = Tl.outP n m lab i k := by
  rw [Tl.outP_eq, Tl.outP_eq]
  refine List.map_congr_left fun a _ => ?_
  by_cases e : a = i
  · subst e; rw [Tl.last_succ, h]; simp
  · rw [if_neg e, if_neg e]
theorem Tl.outP_set {n m : Nat} {lab : List Nat} {i k : Nat} (h : Tl.pr n m lab i k = true) : (Tl.outP n m lab i k).set i k = Tl.outP n m lab i (k + 1) := by
  refine List.ext_getElem (by rw [List.length_set, Tl.outP_length, Tl.outP_length]) fun j h1 h2 => ?_
  rw [List.getElem_set]
  simp only [Tl.outP_eq, List.getElem_map, List.getElem_range]
  by_cases e : i = j
  · subst e; rw [if_pos rfl, if_neg (Nat.lt_irrefl _), if_pos rfl, Tl.last_succ, h]; rfl
  · rw [if_neg e]
    by_cases e2 : j < i
    · rw [if_pos e2, if_pos e2]
    · rw [if_neg e2, if_neg e2, if_neg (fun k => e k.symm), if_neg (fun k => e k.symm)]
theorem Tl.outP_row (n m : Nat) (lab : List Nat) (i : Nat) : Tl.outP n m lab i (2 * n) = Tl.outP n m lab (i + 1) 0 := by
  rw [Tl.outP_eq, Tl.outP_eq]
  refine List.map_congr_left fun a _ => ?_
  by_cases e : a < i
  · rw [if_pos e, if_pos (by omega)]
  · rw [if_neg e]
    by_cases e2 : a = i
    · rw [if_pos e2, if_pos (by omega)]
    · rw [if_neg e2, if_neg (by omega)]
      by_cases e3 : a = i + 1
      · rw [if_pos e3]; rfl
      · rw [if_neg e3]
theorem Tl.outP_end (n m : Nat) (lab : List Nat) : Tl.outP n m lab (2 * n) 0 = Tl.outM n m lab := by
  rw [Tl.outP_eq]
  unfold Tl.outM
  refine List.map_congr_left fun a ha => ?_
  rw [if_pos (List.mem_range.1 ha)]
  rfl

set_option maxRecDepth 100000 in
set_option maxHeartbeats 8000000 in
theorem stack_any (n : Nat) (A : Option Addr) (m c : Nat) (l : List (List Nat)) (w : World) (hl : StL w n A m l) (h0 : 1 ≤ n) (hn : n ≤ 10) (hm0 : 1 ≤ m) (hm : m ≤ 40) (hcn : n ≤ Tl.cnt (Tl.labS n l)) :
    Calls Try.prog 35 #[.int .i64 n, .slice A m c] w fun e w' => ∃ D k d, e = .returned (.tuple #[.slice D k d, .int .i64 ((Tl.stk n l).2 : Nat)]) ∧ OwnI w' w.heap.size D k d (zs (Tl.stk n l).1) ∧ Below w.heap.size w w' := by
  have hlm : l.length = m := by have := hl.ill.len; simpa using this
  have HCN := hide hcn
  clear hcn
  have HLM := hide hlm
  have HOK := hide hl.ok
  obtain ⟨M, hM⟩ : ∃ M : Nat, m + 1 = M := ⟨_, rfl⟩
  obtain ⟨N, hN⟩ : ∃ N : Nat, n * M = N := ⟨_, rfl⟩
  have hN5 : N ≤ 410 := by rw [← hN]; exact Nat.le_trans (Nat.mul_le_mul hn (show M ≤ 41 by omega)) (by omega)
  have hwM : IntKind.i64.wrap ((m : Int) + 1) = (M : Int) := by rw [IntKind.wrap_i64]; omega
  have hwN : IntKind.i64.wrap ((n : Int) * (M : Int)) = (N : Int) := by rw [show (n : Int) * (M : Int) = (N : Int) by rw [← hN]; simp, IntKind.wrap_i64]; omega
  have HN : Hid (N = n * (l.length + 1)) := hide (by rw [hlm, hM, hN])
  have hbw : Below w.heap.size w ((w.alloc (.cells #[.int .i64 n] 3)).alloc (.cells #[.int .i64 m] 3)) := ((Below.refl _ _).alloc (Nat.le_refl _) _).alloc (by simp) _
  have h4 := (Blk.new w 3 #[.int .i64 n]).alloc (.cells #[.int .i64 m] 3)
  have h5 := Blk.new (w.alloc (.cells #[.int .i64 n] 3)) 3 #[.int .i64 m]
  simp only [World.size_alloc] at h5
  have HA := hide (hl.ill.below hbw)
  have HW := hide hbw
  have B4 := hide h4
  have B5 := hide h5
  clear hl hbw h4 h5 hM hN hlm
  go_enter Try.func35, Try.ntmps35
  go_upto_region 2 with fail
  obtain ⟨w0, hw0⟩ : ∃ x2, ((w.alloc (.cells #[.int .i64 n] 3)).alloc (.cells #[.int .i64 m] 3)) = x2 := ⟨_, rfl⟩
  rw [hw0] at HA HW B4 B5 ⊢
  clear hw0
  have c4 := B4.out.cell 0
  have c5 := B5.out.cell 0
  simp at c4 c5
  go_wp2_with fail
  refine (points_any N w0 (by omega)).mono ?_
  rintro e w1 ⟨G, gn, gc, rfl, ho, hb⟩
  have hgn : N = gn := by have := ho.len; simpa [zs] using this
  subst hgn
  have hNp : 0 < N := by rw [HN.out]; exact Nat.mul_pos (by omega) (by omega)
  obtain ⟨g, rfl, hg1, hg2⟩ := ho.form hNp
  have hlt0 : w.heap.size + 1 < w0.heap.size := B5.out.lt
  have HB01 := hide hb
  have HA0 := HA
  have HW0 := hide (HW.out.trans (hb.mono HW.out.size))
  replace B4 := hide (B4.out.below hb B4.out.lt)
  replace B5 := hide (B5.out.below hb B5.out.lt)
  have HJ : Hid (StJ n [] N w1 w1 w0.heap.size g gc) := hide ⟨⟨List.range N, UF.range N, ho⟩, Below.refl _ _⟩
  have hwg : w0.heap.size ≤ g := hg1
  have HAg : Hid (0 < m → ∀ ad, A = some ad → ad.block < w0.heap.size) := hide (fun hp ad e => by
    obtain ⟨ad2, e2, hl2, _⟩ := HA.out.mem hp
    rw [e] at e2; injection e2 with e2; subst e2; exact hl2)
  clear ho hb c4 c5 HA HW
  have e0 : Hid (Tl.edges n 0 (l.take 0) = []) := hide (by simp [Tl.edges])
  have c4 := B4.out.cell 0
  have c5 := B5.out.cell 0
  simp at c4 c5
  go_wp2_with fail
  go_loopw [27] (fun iv wr => ∃ k : Nat, iv = .int .i64 k ∧ k ≤ m ∧ Hid (StJ n (Tl.edges n 0 (l.take k)) N w1 wr w0.heap.size g gc)) (fun iv _ => m - (intOf iv).toNat)
  case atStart => exact ⟨0, rfl, Nat.zero_le _, by rw [e0.out]; exact HJ⟩
  case round =>
    clear HJ e0 c4 c5
    obtain ⟨k, rfl, hk, HJ⟩ := hrel
    rename World => wo
    by_cases hlt : k < m
    · have hkl : k < l.length := by rw [HLM.out]; exact hlt
      obtain ⟨ad, B, bm, bd, rfl, hc0, hil0⟩ := HA0.out.at_ hlt
      rw [zss_getD] at hil0
      have hadl := HAg.out (by omega) ad rfl
      have hdok : Tl.mtOk n (l.getD k []) := HOK.out _ (by rw [show l.getD k [] = l[k] by simp [List.getD, hkl]]; exact List.getElem_mem _)
      have HB0o : Hid (∀ wr, Below g w1 wr → Below w0.heap.size w0 wr) := hide (fun wr h => HB01.out.trans (h.mono hwg))
      have HD : Hid (∀ wr, Below g w1 wr → IL wr B bm (zs (l.getD k []))) := hide (fun wr h => hil0.below (HB0o.out wr h))
      have hcell : wo.cell? (ad.add k) = some (.slice B bm bd) := ((HB0o.out wo HJ.out.below).cell (p := ad.add k) (by rw [block_of_add]; exact hadl)).trans hc0
      have hbm : bm = 2 * n := by have := hil0.len; rw [zs_length, hdok.1] at this; exact this.symm
      have HET : Hid (Tl.edges n 0 (l.take (k + 1)) = Tl.edges n 0 (l.take k) ++ Tl.lay (k * n) (l.getD k [])) := hide (by have := Tl.edges_take n 0 k l hkl; rwa [Nat.zero_add] at this)
      obtain ⟨d, hd⟩ : ∃ d, l.getD k [] = d := ⟨_, rfl⟩
      rw [hd] at HD HET hdok
      obtain ⟨P, hP⟩ : ∃ P, Tl.edges n 0 (l.take k) = P := ⟨_, rfl⟩
      rw [hP] at HJ HET
      obtain ⟨K, hK⟩ : ∃ K, k * n = K := ⟨_, rfl⟩
      rw [hK] at HET
      have hKN : K + 2 * n ≤ N := by
        rw [HN.out, HLM.out, ← hK, Nat.mul_add, Nat.mul_comm k n]
        have := Nat.mul_le_mul_left n (show k + 1 ≤ m by omega)
        rw [Nat.mul_add] at this
        omega
      have hwK : IntKind.i64.wrap ((k : Int) * (n : Int)) = (K : Int) := by rw [show (k : Int) * (n : Int) = (K : Int) by rw [← hK]; simp, IntKind.wrap_i64]; omega
      have HDO := hide hdok
      have hkd : decide ((k : Int) < (m : Int)) = true := decide_eq_true (by omega)
      subst hbm
      clear hil0 hc0 hd hP hK hdok
      go_upto_region 7 with fail
      have HJ0 : Hid (StJ n (P ++ (Tl.lay K d).take 0) N w1 wo w0.heap.size g gc) := hide (by rw [List.take_zero, List.append_nil]; exact HJ.out)
      clear HJ hcell
      go_loopw [34] (fun iv wr => ∃ j : Nat, iv = .int .i64 j ∧ j ≤ 2 * n ∧ Hid (StJ n (P ++ (Tl.lay K d).take j) N w1 wr w0.heap.size g gc)) (fun iv _ => 2 * n - (intOf iv).toNat)
      case atStart => exact ⟨0, rfl, Nat.zero_le _, HJ0⟩
      case round =>
        clear HJ0
        obtain ⟨j, rfl, hj, HJ⟩ := hrel
        by_cases hlj : j < 2 * n
        · obtain ⟨ad2, rfl, hcl⟩ := (HD.out wr HJ.out.below).at_ hlj
          rw [zs_getD] at hcl
          have hdj := HDO.out.getD hlj
          obtain ⟨par, huf, hown⟩ := HJ.out.uf
          have c4 := (B4.out.below HJ.out.below (by omega)).cell 0
          simp at c4
          have HLT : Hid (P ++ (Tl.lay K d).take (j + 1) = P ++ (Tl.lay K d).take j ++ [(K + j, K + d.getD j 0)]) := hide (by rw [Tl.lay_take (by rw [HDO.out.1]; exact hlj), List.append_assoc])
          obtain ⟨dj, hdj2⟩ : ∃ q, d.getD j 0 = q := ⟨_, rfl⟩
          rw [hdj2] at hcl hdj HLT
          obtain ⟨x, hx⟩ : ∃ x, K + j = x := ⟨_, rfl⟩
          obtain ⟨y, hy⟩ : ∃ y, K + dj = y := ⟨_, rfl⟩
          rw [hx, hy] at HLT
          have hwx : IntKind.i64.wrap ((K : Int) + (j : Int)) = (x : Int) := by rw [IntKind.wrap_i64]; omega
          have hwy : IntKind.i64.wrap ((K : Int) + (dj : Int)) = (y : Int) := by rw [IntKind.wrap_i64]; omega
          have hll : (Tl.joins (List.range N) (P ++ (Tl.lay K d).take j)).length = N := by rw [Tl.joins_length, List.length_range]
          have HJN := hide (join_any g N gc w0.heap.size par _ x y wr hown huf (by rw [hll]; omega) (by rw [hll]; omega) (by omega))
          have HUF := hide (huf.join (x := x) (y := y) (by rw [hll]; omega) (by rw [hll]; omega))
          have HBL := hide HJ.out.below
          have HES : Hid (Tl.joins (List.range N) (P ++ (Tl.lay K d).take (j + 1)) = Tl.join (Tl.joins (List.range N) (P ++ (Tl.lay K d).take j)) x y) := hide (by rw [HLT.out, Tl.joins_append]; rfl)
          generalize Tl.joins (List.range N) (P ++ (Tl.lay K d).take j) = lab at *
          clear hdj2 hx hy huf hown HJ HLT hll
          go_wp2_with fail
          refine HJN.out.mono ?_
          rintro e4 w4 ⟨rfl, ho4, he4⟩
          have HJ4 : Hid (StJ n (P ++ (Tl.lay K d).take (j + 1)) N w1 w4 w0.heap.size g gc) := hide ⟨⟨_, by rw [HES.out]; exact HUF.out, ho4⟩, by rw [he4]; exact HBL.out.setCell (Nat.le_refl _) _⟩
          clear ho4 he4 HJN HUF HES c4 hcl
          go_wp2_with fail
          go_roundw
          case rel => exact ⟨j + 1, by go_num, by omega, HJ4⟩
          case measure => simp [intOf]; omega
        · have hjn : j = 2 * n := by omega
          have HJ4 : Hid (StJ n (Tl.edges n 0 (l.take (k + 1))) N w1 wr w0.heap.size g gc) := hide (by
            have h := HJ.out
            rw [hjn, List.take_of_length_le (by simp [Tl.lay, HDO.out.1])] at h
            rw [HET.out]
            exact h)
          clear HJ hjn
          go_wp2_with fail
          go_roundw
          case rel => exact ⟨k + 1, by go_num, by omega, HJ4⟩
          case measure => simp [intOf]; omega
    · have hkm : k = m := by omega
      have HJE : Hid (StJ n (Tl.edges n 0 l) N w1 wo w0.heap.size g gc) := hide (by
        have h := HJ.out
        rw [hkm, List.take_of_length_le (by rw [HLM.out]; exact Nat.le_refl _)] at h
        exact h)
      obtain ⟨par, huf, hown⟩ := HJE.out.uf
      have hll : (Tl.joins (List.range N) (Tl.edges n 0 l)).length = N := by rw [Tl.joins_length, List.length_range]
      have HLS : Hid (Tl.labS n l = Tl.joins (List.range N) (Tl.edges n 0 l)) := hide (by unfold Tl.labS; rw [← HN.out])
      obtain ⟨lab, hlab⟩ : ∃ lab, Tl.joins (List.range N) (Tl.edges n 0 l) = lab := ⟨_, rfl⟩
      rw [hlab] at huf hll HLS
      have HUF := hide huf
      have HOW := hide hown
      have HBG := hide HJE.out.below
      have B4o := hide (B4.out.below HBG.out (by omega))
      have B5o := hide (B5.out.below HBG.out (by omega))
      have HLL := hide hll
      have hlo := hide huf.ok
      clear HJ HJE hkm huf hown hlab hll HAg HOK HA0
      have hmf : ∀ (fn : Fn) (first cap : Array Value) (w : World), (Instr.makeFunc fn first cap).run Try.prog w = .ok (.func fn first cap) w := fun _ _ _ _ => rfl
      have hmm := @run_makeMap Try.prog
      go_upto_region 14 with fail
      have hgw : g < wo.heap.size := (HOW.out.lt g rfl).2
      obtain ⟨gm, hgm⟩ : ∃ b, wo.heap.size = b := ⟨_, rfl⟩
      have HD0 : Hid (Dict Try.prog 3 (wo.alloc (.map #[] 0)) gm (Tl.seenN lab 0) (Tl.fm lab 0)) := hide ((by rw [← hgm]; exact Dict.made wo Try.prog 3 : Dict Try.prog 3 (wo.alloc (.map #[] 0)) gm 0 fun _ => none).congr (Tl.seenN_zero lab).symm (fun key kl _ => by
        unfold Tl.fm
        split
        · rw [if_neg (by simp)]
        · rfl))
      have HB0 : Hid (Below gm wo (wo.alloc (.map #[] 0))) := hide ((Below.refl _ _).alloc (by omega) _)
      have HGM := hide hgm
      rw [hgm] at hgw
      rw [hgm]
      clear hgm hmm hmf
      go_wp2_with fail
      go_loopw [57] (fun iv wr => ∃ i : Nat, iv = .int .i64 i ∧ i ≤ N ∧ Hid (Dict Try.prog 3 wr gm (Tl.seenN lab i) (Tl.fm lab i)) ∧ Hid (Below gm wo wr)) (fun iv _ => N - (intOf iv).toNat)
      case atStart => exact ⟨0, rfl, Nat.zero_le _, HD0, HB0⟩
      case round =>
        clear HD0 HB0
        obtain ⟨i, rfl, hi, HD, HB⟩ := hrel
        rename World => wi
        have HOi := hide (HOW.out.below (by rw [HGM.out]; exact HB.out : Below wo.heap.size wo wi))
        by_cases hli : i < N
        · have hil : i < lab.length := by rw [HLL.out]; exact hli
          have HAT := hide (at_any (some ⟨g, 0, none⟩) N gc par lab i wi HOi.out.il HUF.out hil (by omega))
          have hrl := hlo.out.lt i hil
          rw [HLL.out] at hrl
          have HK1 := hide (Tl.fm_new hil)
          have HK2 : Hid (∀ y lit, keyOf Try.prog 3 y = some lit → y ≠ .int .i64 (Tl.at_ lab i : Nat) → Tl.fm lab (i + 1) y = Tl.fm lab i y) := hide (fun y _ _ h => Tl.fm_old hil h)
          have HK3 : Hid ((if (Tl.fm lab i (.int .i64 (Tl.at_ lab i : Nat))).isSome then Tl.seenN lab i else Tl.seenN lab i + 1) = Tl.seenN lab (i + 1)) := hide (by
            rw [Tl.seenN_step hlo.out hil, Tl.fm_at]
            by_cases h : (lab.take i).contains (Tl.at_ lab i) = true
            · rw [if_pos h, if_pos h]; rfl
            · rw [if_neg h, if_neg h]; rfl)
          have hsN : Tl.seenN lab i ≤ N := by
            unfold Tl.seenN
            refine Nat.le_trans List.countP_le_length ?_
            rw [List.length_range, HLL.out]
            exact Nat.le_refl _
          obtain ⟨s, hs⟩ : ∃ s, Tl.seenN lab i = s := ⟨_, rfl⟩
          obtain ⟨s2, hs2⟩ : ∃ s, Tl.seenN lab (i + 1) = s := ⟨_, rfl⟩
          have HS2 := hide hs2
          rw [hs] at HD HK3 hsN
          rw [hs2] at HK3
          obtain ⟨f1, hf1⟩ : ∃ f, Tl.fm lab i = f := ⟨_, rfl⟩
          obtain ⟨f2, hf2⟩ : ∃ f, Tl.fm lab (i + 1) = f := ⟨_, rfl⟩
          have HF2 := hide hf2
          rw [hf1] at HD HK2 HK3
          rw [hf2] at HK1 HK2
          obtain ⟨r, hr⟩ : ∃ r, Tl.at_ lab i = r := ⟨_, rfl⟩
          rw [hr] at HAT HK1 HK2 HK3 hrl
          have HKEY := hide (keyOf_int_mk (P := Try.prog) Try.underlying3 (wf_nat (show r < 1000000 by omega)))
          clear hs hs2 hf1 hf2 hr hil HOi
          go_wp2_with fail
          refine HAT.out.mono ?_
          rintro e4 w4 ⟨rfl, rfl⟩
          go_wp2_with ((with_reducible show wpList _ _ _ (Oper.mk _ (.mapUpdate 83 _ _ _) _ _ _ _ :: _) _ _); refine wpList_mput _ rfl _ _ _ 83 (.inl rfl) 3 4 keyT Try.underlying83 gm s f1 rfl HD.out (by unfold maxLen; omega) (.int .i64 r) (.bool true) (.int .i64 r) rfl rfl HKEY.out f2 HK1.out HK2.out ?_; intro w7 hd7 hg7 hs7)
          rw [HK3.out, ← HS2.out, ← HF2.out] at hd7
          have HD7 := hide hd7
          have HB7 := hide (HB.out.grown hg7 (by have := HB.out.size; have := HGM.out; omega) (fun j hj => by injection hj with hj; omega))
          clear hd7 hg7 hs7 HAT HK1 HK2 HK3 HF2 HS2
          go_roundw
          case rel => exact ⟨i + 1, by go_num, by omega, HD7, HB7⟩
          case measure => simp [intOf]; omega
        · have hiN : i = N := by omega
          have HDE : Hid (Dict Try.prog 3 wi gm (Tl.cnt lab) (Tl.fm lab i)) := hide (HD.out.congr (by rw [hiN, ← HLL.out, Tl.seenN_all hlo.out]) (fun _ _ _ => rfl))
          have HBi : Hid (Below wo.heap.size wo wi) := hide (by rw [HGM.out]; exact HB.out)
          have HOi := hide (HOW.out.below HBi.out)
          have B4i := hide (B4o.out.below HBi.out B4o.out.lt)
          have B5i := hide (B5o.out.below HBi.out B5o.out.lt)
          have HBg := hide (HBG.out.trans (HBi.out.mono (by have := HGM.out; omega)))
          obtain ⟨M2, hM2⟩ : ∃ M2, 2 * n = M2 := ⟨_, rfl⟩
          have hw2 : IntKind.i64.wrap (2 * (n : Int)) = (M2 : Int) := by rw [IntKind.wrap_i64]; omega
          have HM2 := hide hM2
          have hM20 : M2 ≤ 20 := by omega
          have c4 := B4i.out.cell 0
          simp at c4
          have hgml : gm < wi.heap.size := HDE.out.lt
          clear HD HB HBi HOW B4o B5o hiN hM2 HBG
          obtain ⟨i0, hi0, hz0, hz1, hz2⟩ := info_parts int_info
          go_wp2_with (at_make; refine wpList_make_full _ rfl _ _ 22 rfl wi.heap.size 3 i0 (.int .i64 0) 1 Try.underlying22 hi0 hz0 hz1 .i64 .i64 _ _ M2 rfl rfl rfl rfl (by rw [hz2]; omega) (by unfold maxLen; omega) (Nat.le_refl _) ?_; intro w8 hown8 hg8)
          have hB8 : Below wi.heap.size wi w8 := (Below.refl _ _).grown hg8 (Nat.le_refl _) (by intro k hk; cases hk)
          have hw8 := OwnI.zero (z := #[]) hown8 (by omega)
          have HO8 : Hid (OwnI w8 wi.heap.size (some ⟨wi.heap.size, 0, none⟩) M2 M2 (zs (Tl.outP n m lab 0 0))) := hide (by
            rw [Tl.outP_zero, HM2.out]
            have e : zs (List.replicate M2 0) = List.replicate M2 0 := by unfold zs; rw [List.map_replicate]; rfl
            rw [e]; exact hw8)
          have HB8 := hide hB8
          clear hown8 hg8 hi0 hz0 hz1 hz2 hB8 hw8 c4
          go_wp2_with fail
          obtain ⟨gd, hgd⟩ : ∃ b, wi.heap.size = b := ⟨_, rfl⟩
          have HGD := hide hgd
          rw [hgd] at HO8 HB8 hgml
          rw [hgd]
          have HN2 : Hid (∀ a, a < M2 → Tl.outer n m a < lab.length) := hide (fun a ha => by
            rw [HLL.out, HN.out, HLM.out]
            exact Tl.outer_lt hm0 (by rw [HM2.out]; exact ha))
          clear hgd
          go_loopw [70] (fun iv wr => ∃ a : Nat, iv = .int .i64 a ∧ a ≤ M2 ∧ Hid (OwnI wr gd (some ⟨gd, 0, none⟩) M2 M2 (zs (Tl.outP n m lab a 0))) ∧ Hid (Below gd wi wr)) (fun iv _ => M2 - (intOf iv).toNat)
          case atStart => exact ⟨0, rfl, Nat.zero_le _, HO8, HB8⟩
          case round =>
            clear HO8 HB8
            obtain ⟨a, rfl, ha, HO, HB⟩ := hrel
            rename World => wq
            by_cases hla : a < M2
            · have had : decide ((a : Int) < (M2 : Int)) = true := decide_eq_true (by omega)
              go_upto_region 24 with fail
              go_loopw [75] (fun iv wr => ∃ b : Nat, iv = .int .i64 b ∧ b ≤ M2 ∧ Hid (OwnI wr gd (some ⟨gd, 0, none⟩) M2 M2 (zs (Tl.outP n m lab a b))) ∧ Hid (Below gd wi wr)) (fun iv _ => M2 - (intOf iv).toNat)
              case atStart => exact ⟨0, rfl, Nat.zero_le _, HO, HB⟩
              case round =>
                clear HO HB
                obtain ⟨b, rfl, hb, HO, HB⟩ := hrel
                by_cases hlb : b < M2
                · by_cases hab : a = b
                  · have hne : ((a : Int) != (b : Int)) = false := bne_ff hab
                    have HSK : Hid (Tl.outP n m lab a (b + 1) = Tl.outP n m lab a b) := hide (Tl.outP_skip (by unfold Tl.pr; rw [decide_eq_false (fun h => h hab)]; rfl))
                    clear hab
                    go_wp2_with fail
                    go_roundw
                    case rel => exact ⟨b + 1, by go_num, by omega, by rw [HSK.out]; exact HO, HB⟩
                    case measure => simp [intOf]; omega
                  · have hne : ((a : Int) != (b : Int)) = true := bne_tt hab
                    have HBr : Hid (Below wi.heap.size wi wr) := hide (by rw [HGD.out]; exact HB.out)
                    have HA4 := hide (outerF_any n m a w.heap.size (w.heap.size + 1) wr (B4i.out.below HBr.out B4i.out.lt) (B5i.out.below HBr.out B5i.out.lt) (by omega) (by omega) (by rw [HM2.out]; exact hla))
                    have HA5 := hide (outerF_any n m b w.heap.size (w.heap.size + 1) wr (B4i.out.below HBr.out B4i.out.lt) (B5i.out.below HBr.out B5i.out.lt) (by omega) (by omega) (by rw [HM2.out]; exact hlb))
                    have HA6 := hide (at_any (some ⟨g, 0, none⟩) N gc par lab (Tl.outer n m a) wr (HOi.out.below HBr.out).il HUF.out (HN2.out a hla) (by omega))
                    have HA7 := hide (at_any (some ⟨g, 0, none⟩) N gc par lab (Tl.outer n m b) wr (HOi.out.below HBr.out).il HUF.out (HN2.out b hlb) (by omega))
                    have HP : Hid (Tl.pr n m lab a b = decide (Tl.at_ lab (Tl.outer n m a) = Tl.at_ lab (Tl.outer n m b))) := hide (by unfold Tl.pr; rw [decide_eq_true hab]; rfl)
                    generalize Tl.outer n m a = oa at *
                    generalize Tl.outer n m b = ob at *
                    generalize Tl.at_ lab oa = x at *
                    generalize Tl.at_ lab ob = y at *
                    by_cases hxy : x = y
                    · have hxb : ((x : Int) == (y : Int)) = true := beq_tt hxy
                      have HST := hide (Tl.outP_set (by rw [HP.out]; exact decide_eq_true hxy : Tl.pr n m lab a b = true))
                      have hcl := HO.out.cell hla
                      have hfr := HO.out.frozen a
                      have hst := HO.out.set_ a (b : Int)
                      rw [zs_set, HST.out] at hst
                      have HNX := hide hst
                      have HBX := hide (HB.out.setCell (p := ⟨gd, a, none⟩) (Nat.le_refl _) (.int .i64 (b : Int)))
                      generalize (zs (Tl.outP n m lab a b)).getD a 0 = z at *
                      clear hab hxy HP HST hst HBr
                      go_wp2_with fail
                      refine HA4.out.mono ?_
                      rintro e4 w4 ⟨rfl, rfl⟩
                      go_wp2_with fail
                      refine HA6.out.mono ?_
                      rintro e4 w4 ⟨rfl, rfl⟩
                      go_wp2_with fail
                      refine HA5.out.mono ?_
                      rintro e4 w4 ⟨rfl, rfl⟩
                      go_wp2_with fail
                      refine HA7.out.mono ?_
                      rintro e4 w4 ⟨rfl, rfl⟩
                      go_wp2_with fail
                      go_roundw
                      case rel => exact ⟨b + 1, by go_num, by omega, HNX, HBX⟩
                      case measure => simp [intOf]; omega
                    · have hxb : ((x : Int) == (y : Int)) = false := beq_ff hxy
                      have HSK : Hid (Tl.outP n m lab a (b + 1) = Tl.outP n m lab a b) := hide (Tl.outP_skip (by rw [HP.out]; exact decide_eq_false hxy))
                      clear hab hxy HP HBr
                      go_wp2_with fail
                      refine HA4.out.mono ?_
                      rintro e4 w4 ⟨rfl, rfl⟩
                      go_wp2_with fail
                      refine HA6.out.mono ?_
                      rintro e4 w4 ⟨rfl, rfl⟩
                      go_wp2_with fail
                      refine HA5.out.mono ?_
                      rintro e4 w4 ⟨rfl, rfl⟩
                      go_wp2_with fail
                      refine HA7.out.mono ?_
                      rintro e4 w4 ⟨rfl, rfl⟩
                      go_wp2_with fail
                      go_roundw
                      case rel => exact ⟨b + 1, by go_num, by omega, by rw [HSK.out]; exact HO, HB⟩
                      case measure => simp [intOf]; omega
                · have hbM : b = M2 := by omega
                  have HRW : Hid (OwnI wr gd (some ⟨gd, 0, none⟩) M2 M2 (zs (Tl.outP n m lab (a + 1) 0))) := hide (by
                    have h := HO.out
                    rw [hbM, ← HM2.out, Tl.outP_row, HM2.out] at h
                    exact h)
                  clear HO hbM
                  go_wp2_with fail
                  go_roundw
                  case rel => exact ⟨a + 1, by go_num, by omega, HRW, HB⟩
                  case measure => simp [intOf]; omega
            · have haM : a = M2 := by omega
              have HE : Hid (OwnI wq gd (some ⟨gd, 0, none⟩) M2 M2 (zs (Tl.outM n m lab))) := hide (by
                have h := HO.out
                rw [haM, ← HM2.out, Tl.outP_end, HM2.out] at h
                exact h)
              have HBq : Hid (Below wi.heap.size wi wq) := hide (by rw [HGD.out]; exact HB.out)
              have hlen := (HDE.out.below HBq.out.drew).len Try.underlying83 3
              have c4 := (B4i.out.below HBq.out B4i.out.lt).cell 0
              simp at c4
              have HR1 : Hid (zs (Tl.stk n l).1 = zs (Tl.outM n m lab)) := hide (by show zs (Tl.outM n l.length (Tl.labS n l)) = _; rw [HLM.out, HLS.out])
              obtain ⟨q, hq⟩ : ∃ q, Tl.cnt lab = q := ⟨_, rfl⟩
              obtain ⟨r, hr⟩ : ∃ r, (Tl.stk n l).2 = r := ⟨_, rfl⟩
              have hqr : q - n = r := by rw [← hr, ← hq, ← HLS.out]; rfl
              have hnq : n ≤ q := by rw [← hq, ← HLS.out]; exact HCN.out
              have hqN : q ≤ N := by
                rw [← hq]
                unfold Tl.cnt
                refine Nat.le_trans List.countP_le_length ?_
                rw [List.length_range, HLL.out]
                exact Nat.le_refl _
              have hwr : IntKind.i64.wrap ((q : Int) - (n : Int)) = (r : Int) := by rw [IntKind.wrap_i64]; omega
              have HBF := hide (HW0.out.trans ((HBg.out.trans (HBq.out.mono (by have := HGD.out; omega))).mono (by omega : w.heap.size ≤ g)))
              have HWG : Hid (w.heap.size ≤ gd) := hide (by omega)
              have HR2 := hide hr
              rw [hq] at hlen
              clear hq hr hqr HB HDE
              go_upto_region 30 with fail
              go_region
              go_wp2_with fail
              go_ret2
              rw [HR1.out, HR2.out]
              exact ⟨_, _, _, rfl, (HE.out.mono HWG.out).drew, HBF.out.drew⟩
end Go.Proofs.Ytmeicmhojingfaa
