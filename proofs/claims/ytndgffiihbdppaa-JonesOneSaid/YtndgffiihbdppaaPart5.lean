/- Several texts in one. -/
import Derived.Test.YtndgffiihbdppaaPart4
import Derived.Test.YtndgffiihbdppaaPart3
import Derived.Test.YtndgffiihbdppaaBase2
import Derived.Test.YtndgffiihbdppaaPart1
import Derived.Test.YtndgffiihbdppaaBase1
import Derived.BigRegion
/- JONES: the value at A = 1 (mathematics of stage 16). -/
namespace Go.Proofs.Ytndgffiihbdppaa
set_option linter.unusedVariables false
set_option linter.unusedSimpArgs false

theorem fix_col {n : Nat} {w c : List Int} (hw : ∀ x ∈ w, x ≠ 0 ∧ x.natAbs < n) (h : IsC 2 n c) (hp : isP (endsL n w)) : cCol 2 w c = c ↔ ∀ k, k < n → c.getD k 0 = c.getD (endE w k) 0 := by
  have hl := endsL_length n w
  have hg : ∀ s, s < n → (endsL n w).getD s 0 = endE w s := fun s hs => by unfold endsL; simp [List.getD, hs]
  have hf := h.word hw
  constructor
  · intro e s hs
    have := cCol_two hw h s hs
    rw [e] at this
    exact this.symm
  · intro hc
    refine list_extI (by rw [hf.len, h.len]) fun j hj => ?_
    rw [hf.len] at hj
    obtain ⟨s, hs, e⟩ := hp.surj (i := j) (by rw [hl]; exact hj)
    rw [hl] at hs
    rw [hg s hs] at e
    rw [← e, cCol_two hw h s hs, hc s hs]
theorem cmp_straight {n : Nat} (h1 : 1 ≤ n) (x z : Bt) : Cmp n (Tl.straight n) x z ↔ ∀ k, k < n → x k = z k := by
  have hd : ∀ a, a < 2 * n → (Tl.straight n).getD a 0 = (a + n) % (2 * n) := fun a ha => by unfold Tl.straight; simp [List.getD, ha]
  constructor
  · intro h k hk
    have := h k (by omega)
    rw [hd k (by omega), Nat.mod_eq_of_lt (by omega)] at this
    unfold vl at this
    rwa [if_pos hk, if_neg (by omega), Nat.add_sub_cancel] at this
  · intro h a ha
    rw [hd a ha]
    unfold vl
    by_cases e : a < n
    · rw [Nat.mod_eq_of_lt (by omega), if_pos e, if_neg (by omega), Nat.add_sub_cancel]
      exact h a e
    · have e2 : (a + n) % (2 * n) = a - n := by rw [Nat.mod_eq_sub_mod (by omega), Nat.mod_eq_of_lt (by omega)]; omega
      rw [e2, if_neg e, if_pos (by omega)]
      exact (h (a - n) (by omega)).symm
theorem one_w {n : Nat} (h1 : 1 ≤ n) (h6 : n ≤ 6) {w : List Int} (hw : ∀ x ∈ w, x ≠ 0 ∧ x.natAbs < n) (hp : isP (endsL n w)) :
    tZ n (fun l => (-2) ^ lps n l) w = sg n * 2 ^ (prtL (endsL n w)).length := by
  have h := one_sum h1 h6 w [] hw fun g hg => by cases hg
  have e1 : lps n [] = n := by
    have h2 := cir_straight
    rw [List.all_eq_true] at h2
    have h3 := h2 n (List.mem_range.2 (by omega))
    simp only [Bool.or_eq_true, beq_iff_eq] at h3
    show 0 + Tl.cir n (Tl.straight n) = n
    omega
  have e2 : actS n [] = (Tl.straight n, 0) := rfl
  simp only [List.nil_append] at h
  rw [h, e1, e2]
  congr 1
  rw [gT_bk w _ fun x hx => (hw x hx).1, ← trS_flp alt n]
  have hnr : ∀ ζ : Bt, (sB w (flp alt n ζ) * (2 ^ 0 * cI n (Tl.straight n) (flp alt n ζ) (bk w (flp alt n ζ)))) = if decide (∀ k, k < n → ζ k = ζ (endE w k)) = true then 1 else 0 := fun ζ => by
    rw [Int.pow_zero, Int.one_mul, bk_ends hw, sB_sg hw]
    have iff_ : Cmp n (Tl.straight n) (flp alt n ζ) (flp alt n fun k => ζ (endE w k)) ↔ ∀ k, k < n → ζ k = ζ (endE w k) := by
      rw [cmp_straight h1]
      refine forall_congr' fun k => imp_congr_right fun hk => ?_
      unfold flp
      show (Bool.xor (ζ k) _ = Bool.xor (ζ (endE w k)) _) ↔ _
      cases ζ k <;> cases ζ (endE w k) <;> cases (alt k && decide (k < n)) <;> decide
    by_cases hc : ∀ k, k < n → ζ k = ζ (endE w k)
    · rw [if_pos (decide_eq_true hc), cI_pos (iff_.2 hc), Int.mul_one]
      have : wtN n (fun k => ζ (endE w k)) = wtN n ζ := by
        unfold wtN
        exact sN_congr fun k hk => by
          show (if ζ (endE w k) = true then k else 0) = _
          rw [← hc k hk]
      rw [this, sg_sq]
    · rw [if_neg (by rw [decide_eq_false hc]; decide), cI_neg fun q => hc (iff_.1 q), Int.mul_zero]
  have e3 : trS n (fun ζ => sB w (flp alt n ζ) * (2 ^ 0 * cI n (Tl.straight n) (flp alt n ζ) (bk w (flp alt n ζ)))) = trS n fun ζ => if decide (∀ k, k < n → ζ k = ζ (endE w k)) = true then 1 else 0 := by
    congr 1
    funext ζ
    exact hnr ζ
  refine e3.trans ?_
  rw [← trS_range, ← countP_sum, ← show ((2 ^ (prtL (endsL n w)).length : Nat) : Int) = 2 ^ (prtL (endsL n w)).length by rw [Int.natCast_pow]; rfl, ← cntC_two hw hp]
  congr 1
  unfold cntC
  refine List.countP_congr fun t _ => ?_
  rw [decide_eq_true_iff, decide_eq_true_iff]
  have hc := digs_isC (n := n) (m := 2) (by omega) t
  have hd : ∀ k, k < n → (digs 2 n t).getD k 0 = ((t / 2 ^ k % 2 : Nat) : Int) := fun k hk => by simp [digs, List.getD, hk]
  have hlt : ∀ {k}, k < n → endE w k < n := fun {k} hk => endE_lt (fun x hx => hw x hx) hk
  rw [show ((2 : Nat) : Int) = 2 from rfl] at hc
  refine Iff.trans ?_ (fix_col hw hc hp).symm
  refine forall_congr' fun k => imp_congr_right fun hk => ?_
  rw [hd k hk, hd _ (hlt hk)]
  unfold bt
  have a1 : t / 2 ^ k % 2 < 2 := Nat.mod_lt _ (by omega)
  have a2 : t / 2 ^ endE w k % 2 < 2 := Nat.mod_lt _ (by omega)
  rw [decide_eq_decide]
  omega

/-! ### values -/
theorem ev_term1 (e c : Int) : LP.ev false (LP.term e c) = c := by
  unfold LP.ev
  rw [LP.lin_term]
  show c * 1 = c
  omega
theorem ev_dlt : ∀ k, LP.ev false (dlt k) = (-2) ^ k
  | 0 => ev_one false
  | k + 1 => by
    show LP.ev false (dlt k * _) = _
    rw [LP.ev_mul, LP.ev_add, ev_term1, ev_term1, ev_dlt k, Int.pow_succ]
    rfl
theorem ev_tS {n : Nat} : ∀ (w : List Int) (F : List (List Nat) → LP), LP.ev false (tS n F w) = tZ n (fun l => LP.ev false (F l)) w
  | [], F => rfl
  | x :: w, F => by
    show LP.ev false (LP.term _ _ * tS n _ w + LP.term _ _ * tS n _ w) = tZ n _ w + tZ n _ w
    rw [LP.ev_add, LP.ev_mul, LP.ev_mul, ev_term1, ev_term1, ev_tS w, ev_tS w, Int.one_mul, Int.one_mul]
theorem tZ_congr {n : Nat} : ∀ {w : List Int} {F G : List (List Nat) → Int}, (∀ l, Ch n w l → F l = G l) → tZ n F w = tZ n G w
  | [], F, G, h => h [] rfl
  | x :: w, F, G, h => by
    show tZ n _ w + tZ n _ w = tZ n _ w + tZ n _ w
    rw [tZ_congr (F := fun l => F (Tl.straight n :: l)) (G := fun l => G (Tl.straight n :: l)) (fun l hl => h _ ⟨_, l, rfl, .inl rfl, hl⟩), tZ_congr (F := fun l => F (Tl.hook n x.natAbs :: l)) (G := fun l => G (Tl.hook n x.natAbs :: l)) (fun l hl => h _ ⟨_, l, rfl, .inr rfl, hl⟩)]
theorem tZ_mul {n : Nat} (a : Int) : ∀ (w : List Int) (F : List (List Nat) → Int), tZ n (fun l => a * F l) w = a * tZ n F w
  | [], F => rfl
  | x :: w, F => by
    show tZ n _ w + tZ n _ w = a * (tZ n _ w + tZ n _ w)
    rw [tZ_mul a w, tZ_mul a w, Int.mul_add]
theorem cnt_pos {lab : List Nat} (h : Tl.Ok lab) (h0 : 0 < lab.length) : 0 < Tl.cnt lab := by
  unfold Tl.cnt
  refine List.countP_pos_iff.2 ⟨Tl.at_ lab 0, List.mem_range.2 (h.lt 0 h0), ?_⟩
  rw [h.idem 0 h0]
  exact beq_self_eq_true _
theorem cir_pos {n : Nat} (h1 : 1 ≤ n) {f : List Nat} (hI : Tl.Ivl n f) : 0 < Tl.cir n f := by
  unfold Tl.cir
  refine cnt_pos ((Tl.Ok.range _).joins fun e he => ?_) (by rw [Tl.joins_length, List.length_range]; omega)
  rw [List.length_range]
  unfold Tl.cirE at he
  obtain ⟨i, hi, he⟩ := List.mem_flatMap.1 he
  have hi := List.mem_range.1 hi
  have hm : (i + n) % (2 * n) < 2 * n := Nat.mod_lt _ (by omega)
  simp only [List.mem_cons, List.not_mem_nil, or_false] at he
  rcases he with rfl | rfl
  · exact ⟨hi, hI.lt i hi⟩
  · exact ⟨hi, hm⟩
theorem expo_par : ∀ w : List Int, (∀ x ∈ w, x ≠ 0) → LP.expo w % 2 = ((w.length % 2 : Nat) : Int)
  | [], _ => rfl
  | x :: w, h => by
    have ih := expo_par w fun y hy => h y (by simp [hy])
    have hx := h x (by simp)
    rw [LP.expo_cons, List.length_cons]
    rcases Int.lt_or_lt_of_ne hx with k | k
    · rw [Int.sign_eq_neg_one_of_neg k]; omega
    · rw [Int.sign_eq_one_of_pos k]; omega
/-- The value of the Jones polynomial at A = 1. -/
theorem jon_one {n : Nat} (h1 : 1 ≤ n) (h6 : n ≤ 6) {w : List Int} (hw : ∀ x ∈ w, x ≠ 0 ∧ x.natAbs < n) (hp : isP (endsL n w)) (hs : sgnL (cycs (endsL n w)) = sg w.length) :
    1 ≤ (prtL (endsL n w)).length ∧ LP.ev false (jon n w) = (-2) ^ ((prtL (endsL n w)).length - 1) := by
  have hl := endsL_length n w
  have hc : (prtL (endsL n w)).length + nonMin (endsL n w) = n := by
    unfold prtL nonMin
    rw [List.length_map, hl, ← List.countP_eq_length_filter, ← List.countP_eq_length_filter]
    have := List.length_eq_countP_add_countP (fun i => isMin (endsL n w) i) (l := List.range n)
    rw [List.length_range] at this
    have e : (List.range n).countP (fun i => !isMin (endsL n w) i) = (List.range n).countP (fun a => decide ¬isMin (endsL n w) a = true) := List.countP_congr fun i _ => by
      cases isMin (endsL n w) i <;> decide
    omega
  have c1 : 1 ≤ (prtL (endsL n w)).length := by
    unfold prtL
    rw [List.length_map]
    obtain ⟨r1, _, r3⟩ := repS_spec hp (s := 0) (by rw [hl]; omega)
    exact List.length_pos_of_mem (List.mem_filter.2 ⟨List.mem_range.2 r1, r3⟩)
  refine ⟨c1, ?_⟩
  have hb : (-2) * LP.ev false (brk n w) = sg n * 2 ^ (prtL (endsL n w)).length := by
    rw [← one_w h1 h6 hw hp]
    unfold brk
    rw [ev_tS, ← tZ_mul]
    refine tZ_congr fun l hcl => ?_
    have hlp : 1 ≤ lps n l := by
      have := cir_pos h1 (Tl.plan_hooks h1 h6 (actS_plan h1 h6 (hcl.wd hw))).1
      unfold lps
      omega
    obtain ⟨m, hm⟩ : ∃ m, lps n l = m + 1 := ⟨lps n l - 1, by omega⟩
    rw [ev_dlt, hm, Nat.add_sub_cancel, Int.pow_succ, Int.mul_comm]
  have hj : LP.ev false (jon n w) = LP.ev false (brk n w) * sg w.length := by
    unfold jon
    rw [LP.ev_mul, ev_term1]
    congr 1
    have := expo_par w fun x hx => (hw x hx).1
    unfold sg
    by_cases e : w.length % 2 = 0
    · rw [if_pos (by omega), if_pos e]
    · rw [if_neg (by omega), if_neg e]
  have hg : sg n = sg (prtL (endsL n w)).length * sg (nonMin (endsL n w)) := by rw [← sg_add, hc]
  have key : (-2) * LP.ev false (jon n w) = (-2) ^ (prtL (endsL n w)).length := by
    rw [hj, ← Int.mul_assoc, hb, ← hs, sgn_nonMin hp, hg, ← sg_pow]
    rw [Int.mul_right_comm, Int.mul_assoc (sg (prtL (endsL n w)).length), sg_sq, Int.mul_one]
  obtain ⟨m, hm⟩ : ∃ m, (prtL (endsL n w)).length = m + 1 := ⟨(prtL (endsL n w)).length - 1, by omega⟩
  rw [hm, Int.pow_succ] at key
  rw [hm, Nat.add_sub_cancel]
  omega
end Go.Proofs.Ytndgffiihbdppaa
/- The sign of the permutation of a braid word (mathematics). -/
namespace Go.Proofs.Ytndgffiihbdppaa
set_option linter.unusedVariables false
set_option linter.unusedSimpArgs false

theorem ends_abs (n : Nat) (z : Int) : endsL n [z] = endsL n [(z.natAbs : Int)] := by
  unfold endsL
  refine List.map_congr_left fun s _ => ?_
  show stepE s z = stepE s (z.natAbs : Int)
  unfold stepE
  rw [Int.natAbs_natCast]
theorem sgn_letters : (List.range 7).all (fun N => decide (N < 2) || (List.range N).all fun a => decide (a = 0) || decide (sgnL (cycs (endsL N [(a : Int)])) = -1)) = true := by decide +kernel
theorem sgn_units : (List.range 7).all (fun N => decide (sgnL (cycs (endsL N [])) = 1)) = true := by decide +kernel
theorem sgn_letter {N : Nat} (h2 : 2 ≤ N) (h6 : N ≤ 6) {z : Int} (h0 : z ≠ 0) (hz : z.natAbs < N) : sgnL (cycs (endsL N [z])) = -1 := by
  rw [ends_abs]
  have h := List.all_eq_true.1 sgn_letters N (List.mem_range.2 (by omega))
  rw [decide_eq_false (by omega), Bool.false_or] at h
  have h3 := List.all_eq_true.1 h z.natAbs (List.mem_range.2 hz)
  rw [decide_eq_false (by omega), Bool.false_or] at h3
  exact of_decide_eq_true h3
theorem sgn_word {N : Nat} (h2 : 2 ≤ N) (h6 : N ≤ 6) : ∀ (k : Nat) {x : List Int}, x.length = k → okB N x → sgnL (cycs (endsL N x)) = 1 - 2 * ((k % 2 : Nat) : Int)
  | 0, x, hk, _ => by
    rw [List.eq_nil_of_length_eq_zero hk]
    exact of_decide_eq_true (List.all_eq_true.1 sgn_units N (List.mem_range.2 (by omega)))
  | k + 1, x, hk, hx => by
    obtain ⟨y, z, rfl⟩ : ∃ y z, x = y ++ [z] := by
      rcases List.eq_nil_or_concat x with h | ⟨y, z, h⟩
      · subst h; simp at hk
      · exact ⟨y, z, by rw [h]; simp⟩
    have hy : okB N y := fun a ha => hx a (by simp [ha])
    have hz := hx z (by simp)
    have ozz : okB N [z] := fun a ha => by simp at ha; subst ha; exact hz
    have ih := sgn_word h2 h6 k (x := y) (by simpa using hk) hy
    rw [← ends_comp hy, sgn_comp (ends_isP hy) (ends_isP ozz) (by rw [endsL_length, endsL_length]), ih, sgn_letter h2 h6 hz.1 hz.2]
    omega
end Go.Proofs.Ytndgffiihbdppaa
/- timbkeep1.JonesOne, for packages jones, laurent and link that answer as they should. (Written by tools/gen_cdet.py.) -/
namespace Go.Proofs.Ytndgffiihbdppaa
set_option linter.unusedVariables false
set_option linter.unusedSimpArgs false
open Go.RowKit

theorem two_pow_abs : ∀ j : Nat, ((-2 : Int) ^ j).natAbs = 2 ^ j
  | 0 => rfl
  | j + 1 => by rw [Int.pow_succ, Int.natAbs_mul, two_pow_abs j, Nat.pow_succ]; rfl
set_option maxRecDepth 100000 in
set_option maxHeartbeats 8000000 in
theorem jonesOne_any (F : JonesC) (FP : PolyC) (FL : LinkC) (nn : Int) (A : Option Addr) (n c : Nat) (us : List Int) (w : World) (ha : SL w A n c us) :
    Calls Try.prog 4 #[.int .i64 nn, .slice A n c] w fun e w' => e = .returned (.bool true) ∧ Below w.heap.size w w' := by
  have HJD := hide (jonesed_any F)
  have HF := hide F
  have HFL := hide FL
  have HFP := hide FP
  have HA := hide ha
  clear F FL FP ha
  go_enter Try.func4, Try.ntmps4
  go_wp2_with fail
  refine (strands_gen nn 5 6 rfl (by omega) (by omega) w).mono ?_
  rintro e w0 ⟨T, hT1, hT5, rfl, hww⟩
  subst hww
  have hw1 : IntKind.i64.wrap (T : Int) = (T : Int) := by rw [IntKind.wrap_i64]; omega
  have hs1 : (T : Int) + 1 - 1 = (T : Int) := by omega
  go_wp2_with fail
  refine (word_any A T n c 12 us w HA.out.il HA.out.cap (by omega) (by omega) (by omega)).mono ?_
  rintro e w1 ⟨xs, X, xn, xc, rfl, ho, hx, hxn, hb⟩
  have hxl := ho.len
  have SX := hide ho.sl
  have HW := hide hb
  clear ho hb HA
  have hok : okB (T + 1) xs := fun x hx' => by have := hx x hx'; omega
  obtain ⟨N, hN⟩ : ∃ N, T + 1 = N := ⟨_, rfl⟩
  rw [hN] at hok
  have hTi : (T : Int) + 1 = (N : Int) := by omega
  rw [hTi]
  have hN2 : 2 ≤ N := by omega
  have hN6 : N ≤ 6 := by omega
  have HWM := hide (wfI (x := (N : Int)) (by omega))
  have hbf : bfault (N : Int) xs = 0 := bfault_ok (by omega) (by omega) (by omega) fun y hy => by have := hok y hy; omega
  have HBF := hide hbf
  have HE1 := hide (joE_ok (by omega) hN6 hok (show xs.length ≤ 12 by omega))
  have HP1 := hide (joP_ok (by omega) hN6 hok (show xs.length ≤ 12 by omega))
  have hrt := jon_rt (by omega) hN6 hok (show xs.length ≤ 12 by omega)
  have HRT := hide hrt
  have HEV := hide (LP.evalR_canon hrt (u := 1) (.inl rfl))
  have hsg : sgnL (cycs (endsL N xs)) = sg xs.length := by
    rw [sgn_word hN2 hN6 xs.length rfl hok]
    unfold sg
    split <;> omega
  obtain ⟨hc1, hc2⟩ := jon_one (by omega) hN6 (fun x hx => hok x hx) (ends_isP hok) hsg
  have hpl := prtL_le (endsL N xs)
  rw [endsL_length] at hpl
  have HLL := hide (lkL_len hbf)
  generalize hpL : (prtL (endsL N xs)).length = L at *
  have HC2 := hide hc2
  clear hok hx hxl hxn hN hTi hT1 hT5 hbf hsg hc2 hpL hrt
  go_wp2_with fail
  refine (HF.out.poly (N : Int) X xn xc xs _ SX.out HWM.out).mono ?_
  rintro e w21 ⟨P, pn, pc, rfl, hs, hn, hb⟩
  replace HW := hide (HW.out.trans (hb.mono HW.out.size))
  replace SX := hide (SX.out.below hb)
  dsimp only at hs ⊢
  rw [HE1.out]
  rw [HP1.out] at hs ⊢
  have SP := hide hs
  clear hb hs hn
  go_upto_region 4 with fail
  have hb : Below w21.heap.size w21 (w21.alloc (.cells #[.int .i64 (LP.canon (jon N xs)).1, .slice P pn pc] 36)) := (Below.refl _ _).alloc (Nat.le_refl _) _
  have BP := hide (Blk.new w21 36 #[.int .i64 (LP.canon (jon N xs)).1, .slice P pn pc])
  replace HW := hide (HW.out.trans (hb.mono HW.out.size))
  replace SX := hide (SX.out.below hb)
  replace SP := hide (SP.out.below hb)
  obtain ⟨bP, hq⟩ : ∃ q, w21.heap.size = q := ⟨_, rfl⟩
  obtain ⟨w22, hw⟩ : ∃ x, w21.alloc (.cells #[.int .i64 (LP.canon (jon N xs)).1, .slice P pn pc] 36) = x := ⟨_, rfl⟩
  rw [hw] at BP HW SX SP ⊢
  rw [hq] at BP  ⊢
  clear hb hw hq
  have hp0 := BP.out.cell 0
  have hp1 := BP.out.cell 1
  simp at hp0 hp1
  go_wp2_with fail
  refine (HFP.out.eval (LP.canon (jon N xs)).1 P pn pc (LP.canon (jon N xs)).2 1 _ SP.out HRT.out.wf (by decide)).mono ?_
  rintro e w23 ⟨rfl, hb⟩
  replace HW := hide (HW.out.trans (hb.mono HW.out.size))
  replace SX := hide (SX.out.below hb)
  replace SP := hide (SP.out.below hb)
  replace BP := hide (BP.out.below hb BP.out.lt)
  rw [HEV.out.1, HEV.out.2, show decide ((1 : Int) = -1) = false from rfl, HC2.out]
  clear hb hp0 hp1
  clear SP BP
  go_wp2_with fail
  refine (HFL.out.parts (N : Int) X xn xc xs _ SX.out HWM.out).mono ?_
  rintro e w24 ⟨Q, qn, qc, rfl, hs, hb⟩
  replace HW := hide (HW.out.trans (hb.mono HW.out.size))
  replace SX := hide (SX.out.below hb)
  rw [HBF.out]
  have hpn : L = qn := by rw [← hs.len, HLL.out]
  subst hpn
  clear hb hs
  obtain ⟨C, hC⟩ : ∃ C, L - 1 = C := ⟨_, rfl⟩
  have hLC : L = C + 1 := by omega
  subst hLC
  have hC2 : C + 1 - 1 = C := by omega
  rw [hC2]
  have hCs : ((C + 1 : Nat) : Int) - 1 = (C : Int) := by omega
  have hCw : IntKind.i64.wrap (C : Int) = (C : Int) := by rw [IntKind.wrap_i64]; omega
  have hC6 : C ≤ 6 := by omega
  clear hC hC2 HC2 HEV HLL HE1 HP1 HRT hpl hc1
  go_wp2_with fail
  go_loop [12, 39] (fun wv iv => ∃ j : Nat, j ≤ C ∧ iv = .int .i64 j ∧ wv = .int .i64 ((-2 : Int) ^ j)) (fun _ iv => C - (intOf iv).toNat)
  case atStart => exact ⟨0, Nat.zero_le _, rfl, rfl⟩
  case round =>
    obtain ⟨j, hj, rfl, rfl⟩ := hrel
    by_cases hlt : j < C
    · have h1 := two_pow_abs (j + 1)
      have h2 : 2 ^ (j + 1) ≤ 64 := by
        calc 2 ^ (j + 1) ≤ 2 ^ 6 := Nat.pow_le_pow_right (by omega) (by omega)
          _ = 64 := by decide
      have h3 : (-2 : Int) ^ (j + 1) = (-2) ^ j * (-2) := Int.pow_succ _ _
      obtain ⟨z, hz⟩ : ∃ z, (-2 : Int) ^ j = z := ⟨_, rfl⟩
      obtain ⟨t, ht⟩ : ∃ t, (-2 : Int) ^ (j + 1) = t := ⟨_, rfl⟩
      rw [ht] at h1 h3
      rw [hz] at h3 ⊢
      have hw : IntKind.i64.wrap (z * (-2)) = t := by rw [← h3, IntKind.wrap_i64]; omega
      have HT := hide ht
      clear h1 h2 h3 hz ht
      go_wp2_with fail
      go_round
      case rel => exact ⟨j + 1, by omega, by go_num, by rw [HT.out]⟩
      case measure => simp [intOf]; omega
    · have hjn : j = C := by omega
      rw [hjn]
      generalize (-2 : Int) ^ C = z at *
      clear hjn
      go_wp2_with fail
      refine (HJD.out _).mono ?_
      rintro e w40 ⟨rfl, hb⟩
      replace HW := hide (HW.out.trans (hb.mono HW.out.size))
      clear hb
      go_wp2_with fail
      go_ret
      exact ⟨rfl, HW.out⟩
end Go.Proofs.Ytndgffiihbdppaa
/- Linking numbers: what LinkSums says (mathematics). -/
namespace Go.Proofs.Ytndgffiihbdppaa
set_option linter.unusedVariables false
set_option linter.unusedSimpArgs false

/-! ### sums over squares -/
theorem sum_hit {s : Nat} {c : Int} : ∀ K, ((List.range K).map fun k => if s = k then c else 0).sum = if s < K then c else 0
  | 0 => by simp
  | K + 1 => by
    rw [List.range_succ, List.map_append, List.sum_append, sum_hit K]
    simp only [List.map_cons, List.map_nil, List.sum_cons, List.sum_nil, Int.add_zero]
    by_cases h1 : s < K
    · rw [if_pos h1, if_neg (by omega), if_pos (by omega), Int.add_zero]
    · rw [if_neg h1]
      by_cases h2 : s = K
      · rw [if_pos h2, if_pos (by omega), Int.zero_add]
      · rw [if_neg h2, if_neg (by omega)]; rfl
/-! ### components -/
theorem lkAt_lt {a : List Nat} (h : isP a) {s : Nat} (hs : s < a.length) : lkAt a s < (prtL a).length := by
  unfold lkAt
  refine List.findIdx_lt_length_of_exists ?_
  obtain ⟨h1, h2, h3⟩ := repS_spec h hs
  refine ⟨(List.range a.length).filter fun j => decide (j ∈ cyc a (repS a s)), ?_, ?_⟩
  · unfold prtL
    exact List.mem_map.2 ⟨repS a s, List.mem_filter.2 ⟨List.mem_range.2 h1, h3⟩, rfl⟩
  · rw [decide_eq_true_iff, List.mem_filter, List.mem_range, decide_eq_true_iff]
    exact ⟨hs, cyc_symm h hs h2⟩
/-! ### crossings of two components -/
theorem idxOf_map {f : Nat → Nat} (hf : ∀ s, f (f s) = s) (p : Nat) : ∀ l : List Nat, (l.map f).idxOf p = l.idxOf (f p)
  | [] => rfl
  | a :: l => by
    rw [List.map_cons, List.idxOf_cons, List.idxOf_cons, idxOf_map hf p l]
    have e : (f a == p) = (a == f p) := by
      rw [Bool.eq_iff_iff, beq_iff_eq, beq_iff_eq]
      exact ⟨fun e => by rw [← e, hf], fun e => by rw [e, hf]⟩
    rw [e]
theorem lkS_snoc {n : Nat} {u : List Int} {x : Int} (hx : x ≠ 0) (p : Nat) : lkS n (u ++ [x]) p = lkS n u (stepE p x) := by
  unfold lkS
  rw [← idxOf_map (f := fun s => stepE s x) (fun s => stepE_twice hx s)]
  congr 1
  unfold endsL
  rw [List.map_map]
  exact List.map_congr_left fun s _ => endE_snoc u x s
theorem lkS_lt {n : Nat} {u : List Int} (hu : okB n u) {p : Nat} (hp : p < n) : lkS n u p < n := by
  unfold lkS
  have h := ends_isP hu
  obtain ⟨j, hj, e⟩ := h.surj (i := p) (by rw [endsL_length]; exact hp)
  have := List.idxOf_lt_length_of_mem (a := p) (l := endsL n u) (by
    rw [← e]
    exact getD_mem hj)
  rwa [endsL_length] at this
/-- Pairs of the colors i, k in this order. -/
def pairs (i k : Nat) : List Nat → Nat
  | [] => 0
  | c :: l => (if c = i then l.count k else 0) + pairs i k l
theorem sign_odd {x : Int} (h : x ≠ 0) : x.sign = 1 ∨ x.sign = -1 := by
  rcases Int.lt_trichotomy x 0 with h1 | h1 | h1
  · exact .inr (Int.sign_eq_neg_one_of_neg h1)
  · exact absurd h1 h
  · exact .inl (Int.sign_eq_one_of_pos h1)
/-- An entry of the matrix of linking numbers. -/
def lkE (n : Nat) (w : List Int) (i k : Nat) : Int := (lkSum n (endsL n w) i k [] w).tdiv 2
theorem lkM_eq {n : Nat} {w : List Int} (h : bfault (n : Int) w = 0) : lkM (n : Int) w = (List.range (prtL (endsL n w)).length).map fun i => (List.range (prtL (endsL n w)).length).map fun k => lkE n w i k := by
  unfold lkM lkE
  rw [if_pos h, Int.toNat_natCast]
end Go.Proofs.Ytndgffiihbdppaa
/- slices.Sort of at most nine integers. -/
namespace Go.Proofs.Ytndgffiihbdppaa
set_option linter.unusedVariables false
set_option linter.unusedSimpArgs false
open Go.RowKit

theorem grownBy_setS {a w : World} {g : Nat} (h : a.grownBy w (some g)) (i : Nat) (u : Value) : a.grownBy (w.setCell ⟨g, i, none⟩ u) (some g) :=
  ⟨h.os, h.tape, h.output, by simpa [World.setCell] using h.size, fun k hk hne => (Below.heap_setCell w ⟨g, i, none⟩ u k (fun e => hne (by rw [e]))).trans (h.block k hk hne)⟩

/-- What the loops of the sort know. -/
structure SoSt (w wr : World) (base g n c : Nat) (xs ys : List Int) (i : Nat) : Prop where
  own : OwnI wr base (some ⟨g, 0, none⟩) n c ys
  grown : w.grownBy wr (some g)
  perm : ys.Perm xs
  sort : SortTo ys i
structure SiSt (w wr : World) (base g n c : Nat) (xs ys : List Int) (i j : Nat) : Prop where
  own : OwnI wr base (some ⟨g, 0, none⟩) n c ys
  grown : w.grownBy wr (some g)
  ins : InsSt xs ys i j
theorem SiSt.drewN {w wr : World} {base g n c i j : Nat} {xs ys : List Int} (h : SiSt w wr base g n c xs ys i j) (k : Nat) : SiSt w (wr.drewN k) base g n c xs ys i j :=
  ⟨h.own.drewN k, ⟨h.grown.os, h.grown.tape, h.grown.output, h.grown.size, h.grown.block⟩, h.ins⟩
theorem SiSt.swap {w wr : World} {base g n c i j : Nat} {xs ys : List Int} {x y : Int} (h : SiSt w wr base g n c xs ys i (j + 1)) (hi : i < n) (hj : j + 1 ≤ i) (hx : ys.getD (j + 1) 0 = x) (hy : ys.getD j 0 = y) (hlt : x < y) :
    SiSt w ((wr.setCell ⟨g, j + 1, none⟩ (.int .i64 y)).setCell ⟨g, j, none⟩ (.int .i64 x)).drew base g n c xs (swp ys j) i j := by
  have hl := h.own.len
  have h1 := (h.own.set_ (j + 1) y).set_ j x
  have e : (ys.set (j + 1) y).set j x = swp ys j := by unfold swp; rw [hx, hy]
  rw [e] at h1
  have hg := grownBy_setS (grownBy_setS h.grown (j + 1) (.int .i64 y)) j (.int .i64 x)
  exact ⟨h1.drew, ⟨hg.os, hg.tape, hg.output, hg.size, hg.block⟩, h.ins.swap (by omega) hj (by rw [hx, hy]; exact hlt)⟩
theorem SiSt.stop {w wr : World} {base g n c i j : Nat} {xs ys : List Int} (h : SiSt w wr base g n c xs ys i j) (hj : j ≤ i) (hs : j = 0 ∨ ys.getD (j - 1) 0 ≤ ys.getD j 0) : SoSt w wr base g n c xs ys (i + 1) :=
  ⟨h.own, h.grown, h.ins.perm, h.ins.stop hj hs⟩

end Go.Proofs.Ytndgffiihbdppaa
/- LinkSums: sums as loops take them (mathematics), the cells of a matrix of linking numbers. -/
namespace Go.Proofs.Ytndgffiihbdppaa
set_option linter.unusedVariables false
set_option linter.unusedSimpArgs false
open Go.RowKit

theorem lkSum_bd {n : Nat} {a : List Nat} (i k : Nat) : ∀ (w u : List Int), (lkSum n a i k u w).natAbs ≤ 2 * w.length
  | [], u => by simp [lkSum]
  | x :: w, u => by
    have ih := lkSum_bd (n := n) (a := a) i k w (u ++ [x])
    have hs := LP.sign_le x
    show (((if lkAt a (lkS n u (x.natAbs - 1)) = i ∧ lkAt a (lkS n u x.natAbs) = k then x.sign else 0) + (if lkAt a (lkS n u x.natAbs) = i ∧ lkAt a (lkS n u (x.natAbs - 1)) = k then x.sign else 0)) + lkSum n a i k (u ++ [x]) w).natAbs ≤ _
    rw [List.length_cons]
    split <;> split <;> omega
end Go.Proofs.Ytndgffiihbdppaa
/- timbref1.Parts: components by joined points (mathematics). -/
namespace Go.Proofs.Ytndgffiihbdppaa
set_option linter.unusedVariables false
set_option linter.unusedSimpArgs false

/-! ### the list of components, strand by strand -/
def rowP (a : List Nat) (i m : Nat) : List Nat := (List.range i).filter fun j => decide (j ∈ cyc a m)
def minK (a : List Nat) (i : Nat) : List Nat := (List.range i).filter fun m => isMin a m
def prtK (a : List Nat) (i : Nat) : List (List Nat) := (minK a i).map (rowP a i)
theorem prtK_all (a : List Nat) : prtK a a.length = prtL a := rfl
theorem minK_mem {a : List Nat} {i m : Nat} : m ∈ minK a i ↔ m < i ∧ isMin a m = true := by unfold minK; rw [List.mem_filter, List.mem_range]
theorem prtK_length (a : List Nat) (i : Nat) : (prtK a i).length = (minK a i).length := by simp [prtK]
end Go.Proofs.Ytndgffiihbdppaa
/- Package link: components by numbers (mathematics). -/
namespace Go.Proofs.Ytndgffiihbdppaa
set_option linter.unusedVariables false
set_option linter.unusedSimpArgs false

theorem minK_yes {a : List Nat} {i : Nat} (h : isMin a i = true) : minK a (i + 1) = minK a i ++ [i] := by
  unfold minK
  rw [List.range_succ, List.filter_append, List.filter_cons_of_pos h]
  rfl
theorem minK_no {a : List Nat} {i : Nat} (h : isMin a i = false) : minK a (i + 1) = minK a i := by
  unfold minK
  rw [List.range_succ, List.filter_append, List.filter_cons_of_neg (by simp [h])]
  simp
theorem minK_pre {a : List Nat} {m : Nat} : ∀ n, m ≤ n → ∃ r, minK a n = minK a m ++ r
  | 0, h => by
    have e : m = 0 := by omega
    subst e
    exact ⟨[], by simp⟩
  | n + 1, h => by
    by_cases e : m = n + 1
    · subst e
      exact ⟨[], by simp⟩
    · obtain ⟨r, hr⟩ := minK_pre (a := a) (m := m) n (by omega)
      cases hm : isMin a n with
      | true => exact ⟨r ++ [n], by rw [minK_yes hm, hr, List.append_assoc]⟩
      | false => exact ⟨r, by rw [minK_no hm, hr]⟩
theorem minK_le (a : List Nat) (i : Nat) : (minK a i).length ≤ i := by
  unfold minK
  refine Nat.le_trans (List.length_filter_le _ _) ?_
  rw [List.length_range]
  exact Nat.le_refl _
/-- The smallest strand of a strand's component. -/
theorem repS_iff {a : List Nat} (h : isP a) {j s : Nat} (hj : j < a.length) (hs : s < a.length) (hm : isMin a j = true) : repS a s = j ↔ s ∈ cyc a j := by
  obtain ⟨r1, r2, r3⟩ := repS_spec h hs
  constructor
  · intro e
    rw [e] at r2
    exact cyc_symm h hs r2
  · intro e
    exact min_unique h r1 hj r3 hm (cyc_symm h hs r2) e
/-- A component's number is how many smallest strands are smaller. -/
theorem lkAt_num {a : List Nat} (h : isP a) {s : Nat} (hs : s < a.length) : lkAt a s = (minK a (repS a s)).length := by
  obtain ⟨r1, r2, r3⟩ := repS_spec h hs
  obtain ⟨t, ht⟩ := minK_pre (a := a) (m := repS a s + 1) a.length (by omega)
  rw [minK_yes r3] at ht
  unfold lkAt
  rw [← prtK_all]
  unfold prtK
  rw [ht, List.append_assoc, List.map_append, List.findIdx_append]
  have h1 : List.findIdx (fun c => decide (s ∈ c)) ((minK a (repS a s)).map (rowP a a.length)) = (minK a (repS a s)).length := by
    rw [List.findIdx_eq_length_of_false, List.length_map]
    intro c hc
    obtain ⟨m, hm, rfl⟩ := List.mem_map.1 hc
    obtain ⟨m1, m2⟩ := minK_mem.1 hm
    rw [decide_eq_false_iff_not]
    intro hin
    unfold rowP at hin
    have hin2 := (List.mem_filter.1 hin).2
    rw [decide_eq_true_iff] at hin2
    have := (repS_iff h (by omega) hs m2).2 hin2
    omega
  rw [h1, List.length_map, if_neg (by omega)]
  have h2 : decide (s ∈ rowP a a.length (repS a s)) = true := by
    rw [decide_eq_true_iff]
    unfold rowP
    rw [List.mem_filter, List.mem_range, decide_eq_true_iff]
    exact ⟨hs, cyc_symm h hs r2⟩
  simp only [List.map_append, List.map_cons, List.map_nil, List.cons_append, List.nil_append, List.findIdx_cons, h2, cond_true, Nat.zero_add]

/-! ### the numbers that the program writes -/
/-- The numbers once the components that begin below j are done, and t strands of that of j. -/
def cK (a : List Nat) (j t : Nat) : List Int := (List.range a.length).map fun s => if repS a s < j ∨ s ∈ (cyc a j).take t then ((lkAt a s : Nat) : Int) else -1
theorem cK_length (a : List Nat) (j t : Nat) : (cK a j t).length = a.length := by simp [cK]
theorem cK_getD {a : List Nat} {j t s : Nat} (hs : s < a.length) : (cK a j t).getD s 0 = if repS a s < j ∨ s ∈ (cyc a j).take t then ((lkAt a s : Nat) : Int) else -1 := by
  simp [cK, List.getD, hs]
theorem cK_start (a : List Nat) : cK a 0 0 = List.replicate a.length (-1) := by
  unfold cK
  rw [show (fun s => if repS a s < 0 ∨ s ∈ (cyc a 0).take 0 then ((lkAt a s : Nat) : Int) else -1) = fun _ => (-1 : Int) by
    funext s
    rw [if_neg]
    simp]
  rw [List.map_const', List.length_range]
theorem cK_congr {a : List Nat} {j t j' t' : Nat} (h : ∀ s, s < a.length → ((repS a s < j ∨ s ∈ (cyc a j).take t) ↔ (repS a s < j' ∨ s ∈ (cyc a j').take t'))) : cK a j t = cK a j' t' := by
  unfold cK
  refine List.map_congr_left fun s hs => ?_
  have := h s (List.mem_range.1 hs)
  by_cases e : repS a s < j ∨ s ∈ (cyc a j).take t
  · rw [if_pos e, if_pos (this.1 e)]
  · rw [if_neg e, if_neg fun e2 => e (this.2 e2)]
theorem cK_skip {a : List Nat} (h : isP a) {j : Nat} (hj : j < a.length) (hr : repS a j < j) : cK a (j + 1) 0 = cK a j 0 := by
  refine cK_congr fun s hs => ?_
  simp only [List.take_zero, List.not_mem_nil, or_false]
  obtain ⟨_, _, r3⟩ := repS_spec h hs
  constructor
  · intro e
    by_cases e2 : repS a s = j
    · rw [e2] at r3
      have := (repS_min h hj).2 r3
      omega
    · omega
  · omega
theorem min_of_rep {a : List Nat} (h : isP a) {j : Nat} (hj : j < a.length) (hr : ¬ repS a j < j) : isMin a j = true := by
  have := repS_le h hj
  exact (repS_min h hj).1 (by omega)
theorem cK_next {a : List Nat} (h : isP a) {j : Nat} (hj : j < a.length) (hm : isMin a j = true) : cK a j (perOf a j) = cK a (j + 1) 0 := by
  refine cK_congr fun s hs => ?_
  rw [List.take_of_length_le (by rw [cyc_length]; exact Nat.le_refl _)]
  simp only [List.take_zero, List.not_mem_nil, or_false]
  rw [← repS_iff h hj hs hm]
  omega
theorem cK_set {a : List Nat} (h : isP a) {j t : Nat} (hj : j < a.length) (hm : isMin a j = true) (ht : t < perOf a j) : (cK a j t).set (it a t j) (((minK a j).length : Nat) : Int) = cK a j (t + 1) := by
  have hx := it_lt h hj t
  have hc : (cyc a j).take (t + 1) = (cyc a j).take t ++ [it a t j] := by
    rw [List.take_succ_eq_append_getElem (by rw [cyc_length]; exact ht)]
    simp [cyc]
  refine list_extI (by rw [List.length_set, cK_length, cK_length]) fun s hs => ?_
  rw [List.length_set, cK_length] at hs
  have hv : lkAt a (it a t j) = (minK a j).length := by
    rw [lkAt_num h hx, (repS_iff h hj hx hm).2 ((mem_cyc h hj).2 ⟨t, rfl⟩)]
  rw [cK_getD hs, hc]
  by_cases e : s = it a t j
  · subst e
    rw [if_pos (Or.inr (by simp)), hv]
    simp [List.getD, cK_length, hx]
  · have e2 : ((cK a j t).set (it a t j) (((minK a j).length : Nat) : Int)).getD s 0 = (cK a j t).getD s 0 := by
      simp only [List.getD, List.getElem?_set]
      rw [if_neg (fun e3 => e e3.symm)]
    rw [e2, cK_getD hs]
    have e3 : (s ∈ (cyc a j).take t ++ [it a t j]) ↔ s ∈ (cyc a j).take t := by simp [e]
    simp only [e3]
/-- A strand that isn't numbered yet. -/
theorem cK_none {a : List Nat} (h : isP a) {j t : Nat} (hj : j < a.length) (hm : isMin a j = true) (ht : t < perOf a j) : (cK a j t).getD (it a t j) 0 = -1 := by
  have hx := it_lt h hj t
  rw [cK_getD hx, if_neg]
  rintro (e | e)
  · rw [(repS_iff h hj hx hm).2 ((mem_cyc h hj).2 ⟨t, rfl⟩)] at e
    omega
  · obtain ⟨u, hu, e⟩ := List.mem_iff_getElem.1 e
    rw [List.length_take, cyc_length] at hu
    simp only [List.getElem_take, cyc, List.getElem_map, List.getElem_range] at e
    obtain ⟨d, hd⟩ : ∃ d, t = u + d := ⟨t - u, by omega⟩
    rw [hd] at e
    have e2 := it_back h hj e.symm
    exact (per_spec h hj).2.2.2 d (by omega) (by omega) e2
theorem cK_back {a : List Nat} (h : isP a) {j : Nat} (hj : j < a.length) (hm : isMin a j = true) : it a (perOf a j) j = j ∧ (cK a j (perOf a j)).getD j 0 = ((lkAt a j : Nat) : Int) := by
  refine ⟨(per_spec h hj).2.2.1, ?_⟩
  rw [cK_next h hj hm, cK_getD hj, if_pos]
  left
  have := repS_le h hj
  omega
theorem cK_end {a : List Nat} (h : isP a) : cK a a.length 0 = zs ((List.range a.length).map (lkAt a)) := by
  unfold cK zs
  rw [List.map_map]
  refine List.map_congr_left fun s hs => ?_
  rw [if_pos (Or.inl (repS_spec h (List.mem_range.1 hs)).1)]
  rfl
theorem prt_minK (a : List Nat) : (prtL a).length = (minK a a.length).length := by rw [← prtK_all, prtK_length]

/-! ### the rows of strands -/
/-- The rows when i strands are in. -/
def rwK (a : List Nat) (i : Nat) : List (List Nat) := (List.range (prtL a).length).map fun k => (List.range i).filter fun s => decide (lkAt a s = k)
theorem rwK_length (a : List Nat) (i : Nat) : (rwK a i).length = (prtL a).length := by simp [rwK]
theorem rwK_getD {a : List Nat} {i k : Nat} (hk : k < (prtL a).length) : (rwK a i).getD k [] = (List.range i).filter fun s => decide (lkAt a s = k) := by
  simp [rwK, List.getD, hk]
theorem rwK_start (a : List Nat) : rwK a 0 = List.replicate (prtL a).length [] := by
  unfold rwK
  rw [show (fun k => (List.range 0).filter fun s => decide (lkAt a s = k)) = fun _ => ([] : List Nat) by funext k; rfl, List.map_const', List.length_range]
theorem rwK_put {a : List Nat} (h : isP a) {i : Nat} (hi : i < a.length) : rwK a (i + 1) = (rwK a i).set (lkAt a i) ((rwK a i).getD (lkAt a i) [] ++ [i]) := by
  have hk := lkAt_lt h hi
  rw [rwK_getD hk]
  unfold rwK
  refine List.ext_getElem (by simp) fun k h1 h2 => ?_
  rw [List.getElem_map, List.getElem_range, List.getElem_set, List.getElem_map, List.getElem_range, List.range_succ, List.filter_append]
  by_cases e : lkAt a i = k
  · subst e
    rw [if_pos rfl, List.filter_cons_of_pos (by simp)]
    rfl
  · rw [if_neg e, List.filter_cons_of_neg (by simpa using e)]
    simp
theorem rwK_end {a : List Nat} (h : isP a) : rwK a a.length = prtL a := by
  refine List.ext_getElem (by rw [rwK_length]) fun k h1 h2 => ?_
  have hk : k < (minK a a.length).length := by rwa [← prt_minK]
  obtain ⟨m1, m2⟩ := minK_mem.1 (List.getElem_mem hk)
  have e1 : (rwK a a.length)[k] = (List.range a.length).filter fun s => decide (lkAt a s = k) := by simp [rwK]
  have e2 : (prtL a)[k] = rowP a a.length (minK a a.length)[k] := by
    simp only [← prtK_all]
    unfold prtK
    rw [List.getElem_map]
  rw [e1, e2]
  unfold rowP
  obtain ⟨m, hm⟩ : ∃ m, (minK a a.length)[k] = m := ⟨_, rfl⟩
  rw [hm] at m1 m2 ⊢
  have hk2 : k = (minK a m).length := by
    obtain ⟨t, ht⟩ := minK_pre (a := a) (m := m + 1) a.length (by omega)
    rw [minK_yes m2] at ht
    have hnd : (minK a a.length).Nodup := nodup_filter _ List.nodup_range
    have hl : (minK a m).length < (minK a a.length).length := by rw [ht]; simp
    have e3 : (minK a a.length)[(minK a m).length] = m := by
      simp only [ht]
      simp
    exact (List.getElem_inj hnd).1 (hm.trans e3.symm)
  refine List.filter_congr fun s hs => ?_
  have hs2 := List.mem_range.1 hs
  rw [decide_eq_decide, ← repS_iff h m1 hs2 m2, lkAt_num h hs2, hk2]
  constructor
  · intro e
    obtain ⟨r1, r2, r3⟩ := repS_spec h hs2
    rcases Nat.lt_trichotomy (repS a s) m with g | g | g
    · exfalso
      obtain ⟨t, ht⟩ := minK_pre (a := a) (m := repS a s + 1) m (by omega)
      rw [minK_yes r3] at ht
      have := congrArg List.length ht
      simp at this
      omega
    · exact g
    · exfalso
      obtain ⟨t, ht⟩ := minK_pre (a := a) (m := m + 1) (repS a s) (by omega)
      rw [minK_yes m2] at ht
      have := congrArg List.length ht
      simp at this
      omega
  · intro e
    rw [e]

/-! ### components by position -/
/-- The components of the strands by their positions behind a word. -/
def atK (n : Nat) (a : List Nat) (u : List Int) : List Nat := (List.range n).map fun p => lkAt a (lkS n u p)
theorem atK_length (n : Nat) (a : List Nat) (u : List Int) : (atK n a u).length = n := by simp [atK]
theorem atK_getD {n p : Nat} {a : List Nat} {u : List Int} (hp : p < n) : (atK n a u).getD p 0 = lkAt a (lkS n u p) := by
  simp [atK, List.getD, hp]
theorem lkS_nil {n p : Nat} (hp : p < n) : lkS n [] p = p := by
  unfold lkS
  have e : endsL n [] = List.range n := by
    unfold endsL
    conv => rhs; rw [← List.map_id (List.range n)]
    exact List.map_congr_left fun s _ => rfl
  rw [e]
  have hm : p ∈ List.range n := List.mem_range.2 hp
  have h2 : (List.range n).idxOf p < (List.range n).length := List.idxOf_lt_length_of_mem hm
  have h3 := List.getElem_idxOf h2
  rwa [List.getElem_range] at h3
theorem atK_start {n : Nat} {a : List Nat} (h : a.length = n) : (List.range a.length).map (lkAt a) = atK n a [] := by
  rw [h]
  unfold atK
  refine List.map_congr_left fun p hp => ?_
  rw [lkS_nil (List.mem_range.1 hp)]
theorem atK_step {n i : Nat} {a : List Nat} {u : List Int} {x : Int} (h0 : x ≠ 0) (hi : x.natAbs = i + 1) (hn : i + 1 < n) : ((atK n a u).set i ((atK n a u).getD (i + 1) 0)).set (i + 1) ((atK n a u).getD i 0) = atK n a (u ++ [x]) := by
  rw [atK_getD hn, atK_getD (show i < n by omega)]
  refine List.ext_getElem (by simp [atK]) fun p h1 h2 => ?_
  have hp : p < n := by rw [atK_length] at h2; exact h2
  have e1 : (atK n a (u ++ [x]))[p] = lkAt a (lkS n u (stepE p x)) := by
    simp only [atK, List.getElem_map, List.getElem_range]
    rw [lkS_snoc h0]
  rw [e1, List.getElem_set, List.getElem_set]
  unfold stepE
  by_cases e2 : i + 1 = p
  · subst e2
    rw [if_pos rfl, if_neg (by omega), if_pos (by omega)]
    rfl
  · rw [if_neg e2]
    by_cases e3 : i = p
    · subst e3
      rw [if_pos rfl, if_pos (by omega)]
    · rw [if_neg e3, if_neg (by omega), if_neg (by omega)]
      simp [atK]
end Go.Proofs.Ytndgffiihbdppaa
/- slices.Compare, factorial. -/
namespace Go.Proofs.Ytndgffiihbdppaa
set_option linter.unusedVariables false
set_option linter.unusedSimpArgs false
open Go.RowKit

/-- cmp.Compare at integers. -/
def cmp1 (x y : Int) : Int := if x < y then -1 else if y < x then 1 else 0

set_option maxHeartbeats 1000000 in
theorem cmp_any (x y : Int) (w : World) : Calls Try.prog 33 #[.int .i64 x, .int .i64 y] w fun e w' => e = .returned (.int .i64 (cmp1 x y)) ∧ w = w' := by
  rcases Int.lt_trichotomy x y with h | h | h
  · have HE : Hid (cmp1 x y = -1) := if_pos h
    have hx : (x != x) = false := by simp
    have hy : (y != y) = false := by simp
    go_enter Try.func33, Try.ntmps33
    go_wp2
    go_ret
    rw [HE.out]
    exact ⟨rfl, rfl⟩
  · subst h
    have HE : Hid (cmp1 x x = 0) := by unfold cmp1; rw [if_neg (by omega), if_neg (by omega)]; exact rfl
    have hx : (x != x) = false := by simp
    go_enter Try.func33, Try.ntmps33
    go_wp2
    go_ret
    rw [HE.out]
    exact ⟨rfl, rfl⟩
  · have HE : Hid (cmp1 x y = 1) := by unfold cmp1; rw [if_neg (by omega), if_pos h]; exact rfl
    have hx : (x != x) = false := by simp
    have hy : (y != y) = false := by simp
    go_enter Try.func33, Try.ntmps33
    go_wp2
    go_ret
    rw [HE.out]
    exact ⟨rfl, rfl⟩

end Go.Proofs.Ytndgffiihbdppaa
