/- Several texts in one. -/
import Derived.Test.YtoaiblhlpdaeoaaPart3
import Derived.Test.YtoaiblhlpdaeoaaPart1
import Derived.Test.YtoaiblhlpdaeoaaPart2
import Derived.BigRegion
import Derived.BigQuiet
import Derived.Test.YtoaiblhlpdaeoaaBase1
import Derived.Test.YtoaiblhlpdaeoaaProg
import Derived.WalkKit
import Derived.Deep.QuietTactic
import Derived.WalkSpells
import Derived.WalkLawsBesides
import Derived.Outline
import Derived.Maps.OwnOps
import Derived.Maps.Views
/- Words of normal forms: what they are worth, how long the images under their beginnings can be. -/
namespace Go.Proofs.Ytoaiblhlpdaeoaa
set_option linter.unusedVariables false
set_option linter.unusedSimpArgs false
open Gar

theorem wrd_ok {n : Nat} {p : List Nat} (hp : isP p) (hl : p.length = n) : ∀ i ∈ spl (p.length * p.length) p, i + 1 < n := fun i hi => (elt_spec hp hl).1.1 i hi
theorem map_up_ok {n : Nat} {u : List Nat} (h : ∀ i ∈ u, i + 1 < n) : okB n (u.map up) := fun x hx => by
  obtain ⟨i, hi, rfl⟩ := List.mem_map.1 hx
  have := h i hi
  unfold up
  omega
theorem okB_okl {n : Nat} {w : List Int} (h : okB n w) : ∀ x ∈ w, okl n x := fun x hx => h x hx
theorem gp_wrd {n : Nat} {p : List Nat} (hp : isP p) (hl : p.length = n) : gp n (wrd p) = pos n (elt p) := (pos_mk (wrd_ok hp hl)).symm
theorem LB_wrd {n : Nat} (h2 : 2 ≤ n) (h6 : n ≤ 6) {p : List Nat} (hp : isP p) (hl : p.length = n) : LB (wrd p) 11 ∧ LB (invw (wrd p)) 11 := by
  have hok : okB n (wrd p) := map_up_ok (wrd_ok hp hl)
  have hf := fit_all h2 h6 hp hl
  have hk : ∀ k : Nat, 0 < k → k ≤ n → (artF (wrd p) [(k : Int)]).length ≤ 11 ∧ (artF (invw (wrd p)) [(k : Int)]).length ≤ 11 := fun k hk hkn => by
    have h1 := List.all_eq_true.1 hf (k - 1) (List.mem_range.2 (by omega))
    rw [show ((k - 1 : Nat) : Int) + 1 = (k : Int) by omega] at h1
    simpa using h1
  exact ⟨LB.of_gens hok (by omega) fun k h0 hn => (hk k h0 hn).1, LB.of_gens (okB_inv hok) (by omega) fun k h0 hn => (hk k h0 hn).2⟩
/-- The permutation of a simple element. -/
def perL (n : Nat) (x : M) : List Nat := (List.range n).map (pm x)
theorem perL_ok {n : Nat} {x : M} (h : Sim n x) : isP (perL n x) ∧ (perL n x).length = n ∧ elt (perL n x) = x := by
  have hl : (perL n x).length = n := by simp [perL]
  have hg : ∀ s, s < n → (perL n x).getD s 0 = pm x s := fun s hs => by simp [perL, List.getD, hs]
  have hp : isP (perL n x) := isP_of (fun j hj => by rw [hl] at hj ⊢; rw [hg j hj]; exact pm_lt h.1 hj) (fun i j hi hj e => by
    rw [hl] at hi hj
    rw [hg i hi, hg j hj] at e
    exact pm_inj e)
  refine ⟨hp, hl, ?_⟩
  obtain ⟨h1, h2⟩ := elt_spec hp hl
  exact h1.ext h fun s hs => by rw [h2 s hs, hg s hs]
theorem iw_invw (w : List Int) : iw w = invw w := rfl
theorem LB_sim {n : Nat} (h2 : 2 ≤ n) (h6 : n ≤ 6) {u : List Nat} (h : Sim n (mk u)) : LB (u.map up) 11 ∧ LB (invw (u.map up)) 11 := by
  obtain ⟨p1, p2, p3⟩ := perL_ok h
  have hu : ∀ i ∈ u, i + 1 < n := fun i hi => h.1 i hi
  have o1 : okB n (u.map up) := map_up_ok hu
  have o2 : okB n (wrd (perL n (mk u))) := map_up_ok (wrd_ok p1 p2)
  have e : gp n (wrd (perL n (mk u))) = gp n (u.map up) := by
    rw [gp_wrd p1 p2, p3]
    exact pos_mk hu
  obtain ⟨k1, k2⟩ := LB_wrd h2 h6 p1 p2
  refine ⟨k1.rel (gp_relA (okB_okl o2) (okB_okl o1) e), k2.rel (gp_relA (okB_okl (okB_inv o2)) (okB_okl (okB_inv o1)) ?_)⟩
  exact iw_step e
theorem mk_append (u v : List Nat) : mk (u ++ v) = mk u * mk v := rfl
/-- Beginnings and ends of the word of a permutation. -/
theorem LB_parts {n : Nat} (h2 : 2 ≤ n) (h6 : n ≤ 6) {p : List Nat} (hp : isP p) (hl : p.length = n) (i : Nat) : LB ((wrd p).take i) 11 ∧ LB (invw ((wrd p).take i)) 11 ∧ LB ((wrd p).drop i) 11 ∧ LB (invw ((wrd p).drop i)) 11 := by
  have h := (elt_spec hp hl).1
  unfold elt at h
  unfold wrd
  generalize spl (p.length * p.length) p = u at *
  rw [← List.take_append_drop i u, mk_append] at h
  obtain ⟨a, b⟩ := h.parts
  have q1 := LB_sim h2 h6 a
  have q2 := LB_sim h2 h6 b
  rw [← List.map_take, ← List.map_drop]
  exact ⟨q1.1, q1.2, q2.1, q2.2⟩
theorem okB_wrd {n : Nat} {p : List Nat} (hp : isP p) (hl : p.length = n) : okB n (wrd p) := map_up_ok (wrd_ok hp hl)
theorem okB_take {n : Nat} {w : List Int} (h : okB n w) (i : Nat) : okB n (w.take i) := fun x hx => h x (List.mem_of_mem_take hx)
theorem okB_drop {n : Nat} {w : List Int} (h : okB n w) (i : Nat) : okB n (w.drop i) := fun x hx => h x (List.mem_of_mem_drop hx)
def facW (l : List (List Nat)) : List Int := l.flatMap wrd
def PL (n : Nat) (l : List (List Nat)) : Prop := ∀ p ∈ l, isP p ∧ p.length = n
theorem okB_facW {n : Nat} : ∀ {l : List (List Nat)}, PL n l → okB n (facW l)
  | [], _ => fun x hx => by cases hx
  | p :: l, h => by
    show okB n (wrd p ++ facW l)
    exact okB_app (okB_wrd (h p (by simp)).1 (h p (by simp)).2) (okB_facW fun q hq => h q (by simp [hq]))
theorem okB_rep {n : Nat} {d : List Int} (h : okB n d) : ∀ k, okB n (rep d k) := fun k x hx => by
  unfold rep at hx
  obtain ⟨l, hl, hx⟩ := List.mem_flatten.1 hx
  rw [List.eq_of_mem_replicate hl] at hx
  exact h x hx
theorem gp_facW {n : Nat} : ∀ {l : List (List Nat)}, PL n l → gp n (facW l) = pos n (prod (l.map elt)) ∧ In n (prod (l.map elt))
  | [], _ => ⟨by rw [show facW [] = [] from rfl, gp_one, show prod (([] : List (List Nat)).map elt) = (1 : M) from rfl, pos_one], In_one n⟩
  | p :: l, h => by
    obtain ⟨i1, i2⟩ := gp_facW (l := l) fun q hq => h q (by simp [hq])
    obtain ⟨h1, h2⟩ := h p (by simp)
    have h3 := (elt_spec h1 h2).1.1
    refine ⟨?_, In_mul.2 ⟨h3, i2⟩⟩
    show gp n (wrd p ++ facW l) = pos n (elt p * prod (l.map elt))
    rw [← gp_mul, i1, gp_wrd h1 h2, pos_mul h3 i2]
theorem facW_bound {n : Nat} (h2 : 2 ≤ n) (h6 : n ≤ 6) : ∀ {l : List (List Nat)}, PL n l → ∀ i, ∃ m, m ≤ l.length ∧ LB ((facW l).take i) (11 ^ m) ∧ LB (invw ((facW l).drop i)) (11 ^ (l.length + 1 - m))
  | [], _, i => ⟨0, Nat.le_refl _, by rw [show facW [] = [] from rfl, List.take_nil]; exact LB.nil_, by rw [show facW [] = [] from rfl, List.drop_nil]; exact LB.nil_.mono (by decide)⟩
  | p :: l, h, i => by
    have hl : PL n l := fun q hq => h q (by simp [hq])
    obtain ⟨a1, a2⟩ := h p (by simp)
    have e : facW (p :: l) = wrd p ++ facW l := rfl
    have whole : LB (invw (facW l)) (11 ^ l.length) := by
      clear e a1 a2 h
      induction l with
      | nil => exact LB.nil_
      | cons q l ih =>
        obtain ⟨b1, b2⟩ := hl q (by simp)
        have hl2 : PL n l := fun r hr => hl r (by simp [hr])
        show LB (invw (wrd q ++ facW l)) _
        rw [show invw (wrd q ++ facW l) = invw (facW l) ++ invw (wrd q) by simp [invw]]
        rw [List.length_cons, Nat.pow_succ, Nat.mul_comm]
        exact LB.mul (okB_nz (okB_inv (okB_facW hl2))) (okB_nz (okB_inv (okB_wrd b1 b2))) (ih hl2) (LB_wrd h2 h6 b1 b2).2
    by_cases hi : i ≤ (wrd p).length
    · refine ⟨1, by simp, ?_, ?_⟩
      · rw [e, List.take_append_of_le_length hi, Nat.pow_one]
        exact (LB_parts h2 h6 a1 a2 i).1
      · rw [e, List.drop_append_of_le_length hi, show invw ((wrd p).drop i ++ facW l) = invw (facW l) ++ invw ((wrd p).drop i) by simp [invw], List.length_cons, Nat.add_sub_cancel, Nat.pow_succ, Nat.mul_comm]
        exact LB.mul (okB_nz (okB_inv (okB_facW hl))) (okB_nz (okB_inv (okB_drop (okB_wrd a1 a2) i))) whole (LB_parts h2 h6 a1 a2 i).2.2.2
    · obtain ⟨m, m1, m2, m3⟩ := facW_bound h2 h6 hl (i - (wrd p).length)
      refine ⟨m + 1, by simp; omega, ?_, ?_⟩
      · rw [e, List.take_append, List.take_of_length_le (by omega), Nat.pow_succ]
        exact LB.mul (okB_nz (okB_wrd a1 a2)) (okB_nz (okB_take (okB_facW hl) _)) (LB_wrd h2 h6 a1 a2).1 m2
      · rw [e, List.drop_append, List.drop_of_length_le (by omega), List.nil_append, List.length_cons, show l.length + 1 + 1 - (m + 1) = l.length + 1 - m by omega]
        exact m3
/-- The half twist. -/
theorem full_isP (n : Nat) : isP (fullL n) ∧ (fullL n).length = n := by
  refine ⟨isP_of (fun j hj => ?_) (fun i j hi hj e => ?_), by simp [fullL]⟩
  · rw [show (fullL n).length = n by simp [fullL]] at hj ⊢
    rw [fullL_getD hj]
    omega
  · rw [show (fullL n).length = n by simp [fullL]] at hi hj
    rw [fullL_getD hi, fullL_getD hj] at e
    omega
theorem gp_half (n : Nat) : gp n (halfW n) = dl n := by
  unfold halfW dl
  rw [gp_wrd (full_isP n).1 (full_isP n).2, (elt_full (full_isP n).1 (full_isP n).2).2 rfl]
theorem okB_half (n : Nat) : okB n (halfW n) := okB_wrd (full_isP n).1 (full_isP n).2
/-- The word of a power of the half twist. -/
def powW (n : Nat) (k : Int) : List Int := rep (if k < 0 then invw (halfW n) else halfW n) k.natAbs
theorem gp_rep {n : Nat} (d : List Int) : ∀ k, gp n (rep d k) = npow (gp n d) k
  | 0 => rfl
  | k + 1 => by rw [rep_succ, ← gp_mul, gp_rep d k]; rfl
theorem gp_pow (n : Nat) (k : Int) : gp n (powW n k) = zp n k := by
  unfold powW zp
  rw [gp_rep]
  by_cases h : k < 0
  · rw [if_pos h, if_neg (by omega), show k.natAbs = (-k).toNat by omega]
    congr 1
    rw [← gp_half]
    rfl
  · rw [if_neg h, if_pos (by omega), show k.natAbs = k.toNat by omega, gp_half]
theorem okB_pow (n : Nat) (k : Int) : okB n (powW n k) := by
  unfold powW
  split
  · exact okB_rep (okB_inv (okB_half n)) _
  · exact okB_rep (okB_half n) _
/-- The word of a normal form. -/
def wriW (n : Nat) (k : Int) (l : List (List Nat)) : List Int := powW n k ++ facW l
theorem okB_wri {n : Nat} (k : Int) {l : List (List Nat)} (h : PL n l) : okB n (wriW n k l) := okB_app (okB_pow n k) (okB_facW h)
theorem gp_wri {n : Nat} (k : Int) {l : List (List Nat)} (h : PL n l) : gp n (wriW n k l) = nfv n k (l.map elt) := by
  unfold wriW nfv
  rw [← gp_mul, gp_pow, (gp_facW h).1]
theorem fitH_at {n : Nat} (h2 : 2 ≤ n) (h6 : n ≤ 6) : fitH n = true := by
  have h := fitH_all
  simp only [Bool.and_eq_true] at h
  obtain ⟨⟨⟨⟨a, b⟩, c⟩, d⟩, e⟩ := h
  have : n = 2 ∨ n = 3 ∨ n = 4 ∨ n = 5 ∨ n = 6 := by omega
  rcases this with rfl | rfl | rfl | rfl | rfl
  · exact a
  · exact b
  · exact c
  · exact d
  · exact e
theorem LB_half {n : Nat} (h2 : 2 ≤ n) (h6 : n ≤ 6) {q : Nat} (hq : q ≤ 8) : LB (rep (halfW n) q) 60 ∧ LB (rep (invw (halfW n)) q) 60 := by
  have hk : ∀ k : Nat, 0 < k → k ≤ n → (artF (rep (halfW n) q) [(k : Int)]).length ≤ 60 ∧ (artF (rep (invw (halfW n)) q) [(k : Int)]).length ≤ 60 := fun k hk hkn => by
    have h1 := List.all_eq_true.1 (List.all_eq_true.1 (fitH_at h2 h6) q (List.mem_range.2 (by omega))) (k - 1) (List.mem_range.2 (by omega))
    rw [show ((k - 1 : Nat) : Int) + 1 = (k : Int) by omega] at h1
    simpa using h1
  exact ⟨LB.of_gens (okB_rep (okB_half n) q) (by omega) fun k h0 hn => (hk k h0 hn).1, LB.of_gens (okB_rep (okB_inv (okB_half n)) q) (by omega) fun k h0 hn => (hk k h0 hn).2⟩
theorem rep_take (d : List Int) : ∀ (q i : Nat), ∃ q' i', q' ≤ q ∧ (rep d q).take i = rep d q' ++ d.take i'
  | 0, i => ⟨0, 0, Nat.le_refl _, by rw [rep_zero]; simp⟩
  | q + 1, i => by
    by_cases h : i ≤ d.length
    · exact ⟨0, i, Nat.zero_le _, by rw [rep_succ, List.take_append_of_le_length h, rep_zero, List.nil_append]⟩
    · obtain ⟨q', i', h1, h2⟩ := rep_take d q (i - d.length)
      refine ⟨q' + 1, i', by omega, ?_⟩
      rw [rep_succ, List.take_append, List.take_of_length_le (by omega), h2, rep_succ, List.append_assoc]
theorem LB_pow_take {n : Nat} (h2 : 2 ≤ n) (h6 : n ≤ 6) {k : Int} (hk : k.natAbs ≤ 8) (i : Nat) : LB ((powW n k).take i) 660 := by
  unfold powW
  by_cases h : k < 0
  · rw [if_pos h]
    obtain ⟨q, j, h3, h4⟩ := rep_take (invw (halfW n)) k.natAbs i
    rw [h4]
    refine LB.mul (B := 60) (C := 11) (okB_nz (okB_rep (okB_inv (okB_half n)) q)) (okB_nz (okB_take (okB_inv (okB_half n)) j)) (LB_half h2 h6 (by omega)).2 ?_
    have e : (invw (halfW n)).take j = invw ((halfW n).drop ((halfW n).length - j)) := by
      unfold invw
      rw [List.map_drop, List.take_reverse, List.length_map]
    rw [e]
    exact (LB_parts h2 h6 (full_isP n).1 (full_isP n).2 _).2.2.2
  · rw [if_neg h]
    obtain ⟨q, j, h3, h4⟩ := rep_take (halfW n) k.natAbs i
    rw [h4]
    exact LB.mul (B := 60) (C := 11) (okB_nz (okB_rep (okB_half n) q)) (okB_nz (okB_take (okB_half n) j)) (LB_half h2 h6 (by omega)).1 (LB_parts h2 h6 (full_isP n).1 (full_isP n).2 j).1
/-- The images on the way from the inverse of a word to the word of its normal form. -/
theorem way_bound {n : Nat} (h2 : 2 ≤ n) (h6 : n ≤ 6) {w : List Int} (hw : okB n w) (hl : w.length ≤ 8) {k : Int} {l : List (List Nat)} (hp : PL n l) (hn : NF n (l.map elt)) (e : nfv n k (l.map elt) = gp n w) (j : Nat) :
    LB ((invw w ++ wriW n k l).take j) 30000000000 := by
  have hk1 := power_ge h2 hn e
  have hk2 := power_le h2 hn e
  have hr := factors_le h2 hn e
  rw [List.length_map] at hr
  have lw : (invw w).length = w.length := by simp [invw]
  have owi := okB_inv hw
  have LW : LB (invw w) 3000 := LB.short (fun y hy => by have := owi y hy; omega) (by omega)
  by_cases h1 : j ≤ (invw w).length
  · rw [List.take_append_of_le_length h1]
    exact (LB.short (fun y hy => by have := owi y (List.mem_of_mem_take hy); omega) (by rw [List.length_take]; omega)).mono (by omega)
  · rw [List.take_append, List.take_of_length_le (by omega)]
    generalize j - (invw w).length = i
    unfold wriW
    by_cases h3 : i ≤ (powW n k).length
    · rw [List.take_append_of_le_length h3]
      exact (LB.mul (okB_nz owi) (okB_nz (okB_take (okB_pow n k) i)) LW (LB_pow_take h2 h6 (by omega) i)).mono (by omega)
    · rw [List.take_append, List.take_of_length_le (by omega)]
      generalize i - (powW n k).length = t
      obtain ⟨m, m1, m2, m3⟩ := facW_bound h2 h6 hp t
      by_cases hm : m ≤ 5
      · have hwhole : LB (powW n k) 60 := by
          unfold powW
          split
          · exact (LB_half h2 h6 (by omega)).2
          · exact (LB_half h2 h6 (by omega)).1
        have h5 : 11 ^ m ≤ 161051 := Nat.le_trans (Nat.pow_le_pow_right (by omega) hm) (by decide)
        refine (LB.mul (okB_nz owi) (okB_nz (okB_app (okB_pow n k) (okB_take (okB_facW hp) t))) LW (LB.mul (okB_nz (okB_pow n k)) (okB_nz (okB_take (okB_facW hp) t)) hwhole m2)).mono ?_
        generalize 11 ^ m = Q at h5 ⊢
        omega
      · have h5 : 11 ^ (l.length + 1 - m) ≤ 1331 := Nat.le_trans (Nat.pow_le_pow_right (by omega) (show l.length + 1 - m ≤ 3 by omega)) (by decide)
        refine (m3.rel (gp_relA (okB_okl (okB_inv (okB_drop (okB_facW hp) t))) (okB_okl (okB_app owi (okB_app (okB_pow n k) (okB_take (okB_facW hp) t)))) ?_)).mono (Nat.le_trans h5 (by decide))
        rw [← iw_invw, ← gp_inv]
        refine G_cancel_r (x := gp n ((facW l).drop t)) ?_
        rw [inv_mul, gp_mul, List.append_assoc, List.append_assoc, List.take_append_drop, ← gp_mul]
        have e2 := gp_wri k hp
        unfold wriW at e2
        rw [e2, e, ← iw_invw]
        exact (gp_iw' n w).symm
end Go.Proofs.Ytoaiblhlpdaeoaa
/- slices.Reverse; timbref1.Full, Tight; slices.Repeat of nothing. -/
namespace Go.Proofs.Ytoaiblhlpdaeoaa
set_option linter.unusedVariables false
set_option linter.unusedSimpArgs false
open Go.RowKit

/-- The outermost k pairs exchanged. -/
def rvK (xs : List Int) (n k : Nat) : List Int := (List.range n).map fun j => if j < k ∨ n ≤ j + k then xs.getD (n - 1 - j) 0 else xs.getD j 0
theorem rvK_zero {xs : List Int} {n : Nat} (h : xs.length = n) : rvK xs n 0 = xs := by
  unfold rvK
  refine List.ext_getElem (by simp [h]) fun j h1 h2 => ?_
  simp at h1
  simp [List.getD, h2, show ¬ n ≤ j by omega]
theorem rvK_end {xs : List Int} {n k : Nat} (h : xs.length = n) (hk : n ≤ 2 * k + 1) : rvK xs n k = xs.reverse := by
  unfold rvK
  refine List.ext_getElem (by simp [h]) fun j h1 h2 => ?_
  simp at h1
  rw [List.getElem_map, List.getElem_range, List.getElem_reverse]
  have e : xs.getD (n - 1 - j) 0 = xs[xs.length - 1 - j]'(by omega) := by
    rw [show n - 1 - j = xs.length - 1 - j by omega]
    simp [List.getD, show xs.length - 1 - j < xs.length by omega]
  by_cases hc : j < k ∨ n ≤ j + k
  · rw [if_pos hc, e]
  · rw [if_neg hc]
    have e2 : xs.length - 1 - j = j := by omega
    simp [List.getD, show j < xs.length by omega, e2]
theorem rvK_getD {xs : List Int} {n k j : Nat} (hj : j < n) : (rvK xs n k).getD j 0 = if j < k ∨ n ≤ j + k then xs.getD (n - 1 - j) 0 else xs.getD j 0 := by
  unfold rvK
  simp [List.getD, hj]
theorem rvK_get {xs : List Int} {n k j : Nat} (h : j < (rvK xs n k).length) : (rvK xs n k)[j] = if j < k ∨ n ≤ j + k then xs.getD (n - 1 - j) 0 else xs.getD j 0 := by
  have hj : j < n := by simpa [rvK] using h
  rw [← rvK_getD hj]
  simp [List.getD, h]
theorem rvK_step {xs : List Int} {n k : Nat} (hk : 2 * k + 1 < n) : ((rvK xs n k).set k (xs.getD (n - 1 - k) 0)).set (n - 1 - k) (xs.getD k 0) = rvK xs n (k + 1) := by
  refine List.ext_getElem (by simp [rvK]) fun j h1 h2 => ?_
  simp [rvK] at h1
  rw [List.getElem_set, List.getElem_set, rvK_get, rvK_get]
  by_cases e1 : n - 1 - k = j
  · rw [if_pos e1, if_pos (by omega)]
    congr 1
    omega
  · rw [if_neg e1]
    by_cases e2 : k = j
    · subst e2
      rw [if_pos rfl, if_pos (by omega)]
    · rw [if_neg e2]
      by_cases hc : j < k ∨ n ≤ j + k
      · rw [if_pos hc, if_pos (by omega)]
      · rw [if_neg hc, if_neg (by omega)]

set_option maxRecDepth 100000 in
set_option maxHeartbeats 4000000 in
theorem reverse_any (g n c base : Nat) (xs : List Int) (w : World) (ho : OwnI w base (some ⟨g, 0, none⟩) n c xs) (hn : n ≤ 1000) :
    Calls Try.prog 97 #[.slice (some ⟨g, 0, none⟩) n c] w fun e w' => e = .returned (.tuple #[]) ∧ OwnI w' base (some ⟨g, 0, none⟩) n c xs.reverse ∧ Below g w w' := by
  have HL := hide ho.len
  have HO0 : Hid (OwnI w base (some ⟨g, 0, none⟩) n c (rvK xs n 0)) := hide (by rw [rvK_zero HL.out]; exact ho)
  have hgb : Hid (Below g w w) := hide (Below.refl _ _)
  clear ho
  go_enter Try.func97, Try.ntmps97
  go_wp2_with fail
  go_loopw [2, 3] (fun iv jv wr => ∃ k : Nat, iv = .int .i64 k ∧ jv = .int .i64 ((n : Int) - 1 - k) ∧ 2 * k ≤ n + 1 ∧ Hid (OwnI wr base (some ⟨g, 0, none⟩) n c (rvK xs n k)) ∧ Hid (Below g w wr)) (fun iv _ _ => n + 2 - (intOf iv).toNat)
  case atStart => exact ⟨0, rfl, by simp, by omega, HO0, hgb⟩
  case round =>
    clear HO0 hgb
    obtain ⟨k, rfl, rfl, hk, HO, HB⟩ := hrel
    by_cases hlt : 2 * k + 1 < n
    · obtain ⟨q, hq⟩ : ∃ q : Nat, n - 1 - k = q := ⟨_, rfl⟩
      have hqi : (n : Int) - 1 - (k : Int) = (q : Int) := by omega
      have hkq : k < q := by omega
      have hqn : q < n := by omega
      have hck := HO.out.cell (j := k) (by omega)
      have hcq := HO.out.cell (j := q) hqn
      rw [rvK_getD (by omega), if_neg (by omega)] at hck
      rw [rvK_getD hqn, if_neg (by omega)] at hcq
      have hfk := HO.out.frozen k
      have hfq := HO.out.frozen q
      have hst := rvK_step (xs := xs) hlt
      rw [hq] at hst
      have HN := hide ((HO.out.set_ k (xs.getD q 0)).set_ q (xs.getD k 0))
      rw [hst] at HN
      have HBN := hide ((HB.out.setCell (p := ⟨g, k, none⟩) (Nat.le_refl _) (.int .i64 (xs.getD q 0))).setCell (p := ⟨g, q, none⟩) (Nat.le_refl _) (.int .i64 (xs.getD k 0)))
      have HQ : Hid ((q : Int) - 1 = (n : Int) - 1 - ((k + 1 : Nat) : Int)) := hide (by omega)
      have HK2 : Hid (2 * (k + 1) ≤ n + 1) := hide (by omega)
      have HNK : Hid (n + 2 - (k + 1) < n + 2 - k) := hide (by omega)
      have hqs : q < 1000 := by omega
      rw [hqi]
      clear hst hq hqi hlt hk HO HB
      generalize xs.getD q 0 = u at *
      generalize xs.getD k 0 = v at *
      have hwk : IntKind.i64.wrap (k : Int) = (k : Int) := by rw [IntKind.wrap_i64]; omega
      have hwq : IntKind.i64.wrap (q : Int) = (q : Int) := by rw [IntKind.wrap_i64]; omega
      go_wp2_with fail
      go_region
      go_wp2_with fail
      go_roundw
      case rel => exact ⟨k + 1, by go_num, by rw [← HQ.out], HK2.out, hide HN.out.drew, hide HBN.out.drew⟩
      case measure => simp [intOf]; omega
    · have HE : Hid (OwnI wr base (some ⟨g, 0, none⟩) n c xs.reverse) := hide (by rw [← rvK_end HL.out (show n ≤ 2 * k + 1 by omega)]; exact HO.out)
      have hnl : ¬ ((k : Int) < (n : Int) - 1 - (k : Int)) := by omega
      have hd : decide ((k : Int) < (n : Int) - 1 - (k : Int)) = false := decide_eq_false hnl
      clear HO
      go_wp2_with fail
      go_returns
      exact ⟨rfl, HE.out, HB.out⟩

set_option maxRecDepth 100000 in
set_option maxHeartbeats 2000000 in
theorem full_any (n : Nat) (w : World) (h1 : 1 ≤ n) (hn : n ≤ 6) : Calls Try.prog 55 #[.int .i64 n] w (GivesOwn w (zs (Gar.fullL n))) := by
  go_enter Try.func55, Try.ntmps55
  go_wp2_with fail
  refine (row_any n w (by omega)).mono ?_
  rintro e w1 ⟨A, m, c, rfl, ho, hb⟩
  have hm : m = n := by have := ho.len; rw [zs_length, List.length_range] at this; exact this.symm
  subst hm
  obtain ⟨g, rfl, hg, _⟩ := ho.form h1
  have HB := hide hb
  have HO := hide ho
  clear hb ho
  go_wp2_with fail
  refine (reverse_any g m c w.heap.size _ w1 HO.out (by omega)).mono ?_
  rintro e w2 ⟨rfl, ho, hb⟩
  have HO2 : Hid (OwnI w2 w.heap.size (some ⟨g, 0, none⟩) m c (zs (Gar.fullL m))) := hide (by
    rw [show (zs (List.range m)).reverse = zs (Gar.fullL m) by unfold zs Gar.fullL; rw [List.map_reverse]] at ho
    exact ho)
  have HB2 := hide (HB.out.trans (hb.mono hg))
  clear ho hb
  go_wp2_with fail
  go_ret
  exact ⟨_, _, _, rfl, HO2.out, HB2.out⟩
end Go.Proofs.Ytoaiblhlpdaeoaa
/- timbref1.Tight. -/
namespace Go.Proofs.Ytoaiblhlpdaeoaa
set_option linter.unusedVariables false
set_option linter.unusedSimpArgs false
open Go.RowKit

def tiB (a b c : List Nat) (i : Nat) : Bool := !(decide (b.getD (i + 1) 0 < b.getD i 0) && decide (c.getD i 0 < c.getD (i + 1) 0))
theorem tight_yes {a b c : List Nat} {n : Nat} (hl : a.length = n) (h : ∀ j, j + 1 < n → tiB a b c j = true) : Gar.tightB a b c = true := by
  unfold Gar.tightB
  rw [List.all_eq_true]
  exact fun i hi => h i (by rw [List.mem_range] at hi; omega)
theorem tight_no {a b c : List Nat} {n j : Nat} (hl : a.length = n) (hj : j + 1 < n) (h : tiB a b c j = false) : Gar.tightB a b c = false := by
  unfold Gar.tightB
  rw [List.all_eq_false]
  exact ⟨j, List.mem_range.2 (by omega), by unfold tiB at h; rw [h]; simp⟩

set_option maxRecDepth 100000 in
set_option maxHeartbeats 4000000 in
theorem tight_any (A B : Option Addr) (n ca cb : Nat) (a b : List Nat) (w : World) (ha : SL w A n ca (zs a)) (hb : SL w B n cb (zs b)) (pa : isP a) (pb : isP b) (hn : n ≤ 6) :
    Calls Try.prog 56 #[.slice A n ca, .slice B n cb] w fun e w' => e = .returned (.bool (Gar.tightB a b (inv a))) ∧ Below w.heap.size w w' := by
  have hla : a.length = n := by have := ha.il.len; rwa [zs_length] at this
  have HLA := hide hla
  have HB := hide hb.il
  have HBK := hide (back_any A n ca a w ha.il pa)
  have hlc : (inv a).length = n := by rw [inv_length]; exact hla
  obtain ⟨c, hc⟩ : ∃ c, inv a = c := ⟨_, rfl⟩
  rw [hc] at HBK hlc ⊢
  have HLC := hide hlc
  clear ha hb hc hla hlc pa pb
  go_enter Try.func56, Try.ntmps56
  go_wp2_with fail
  refine HBK.out.mono ?_
  rintro e w1 ⟨C, m, cc, rfl, ho, hbw⟩
  have hm : m = n := by have := ho.len; rw [zs_length, HLC.out] at this; exact this.symm
  subst hm
  have HC := hide ho.il
  replace HB := hide (HB.out.below hbw)
  have HW := hide hbw
  clear ho hbw HBK
  go_wp2_with fail
  go_loopw [6] (fun iv wr => ∃ k i : Nat, k ≤ m ∧ i = k + 1 ∧ iv = .int .i64 (i : Int) ∧ Hid (∀ j, j < k → j + 1 < m → tiB a b c j = true) ∧ Hid (Below w1.heap.size w1 wr)) (fun iv _ => m + 1 - (intOf iv).toNat)
  case atStart => exact ⟨0, 1, Nat.zero_le _, rfl, rfl, hide (fun j h => absurd h (by omega)), hide (Below.refl _ _)⟩
  case round =>
    obtain ⟨k, i, hk, hik, rfl, HT, HWR⟩ := hrel
    have HIK := hide hik
    by_cases hlt : i < m
    · obtain ⟨ad, rfl, hb0⟩ := (HB.out.below HWR.out).at_ (k := k) (by omega)
      obtain ⟨_, e1, hb1⟩ := (HB.out.below HWR.out).at_ (k := i) hlt
      injection e1 with e1
      subst e1
      obtain ⟨cd, rfl, hc0⟩ := (HC.out.below HWR.out).at_ (k := k) (by omega)
      obtain ⟨_, e1, hc1⟩ := (HC.out.below HWR.out).at_ (k := i) hlt
      injection e1 with e1
      subst e1
      rw [zs_getD] at hb0 hb1 hc0 hc1
      have HV : Hid (tiB a b c k = !(decide (b.getD i 0 < b.getD k 0) && decide (c.getD k 0 < c.getD i 0))) := hide (by rw [hik]; rfl)
      have HNO : Hid (tiB a b c k = false → Gar.tightB a b c = false) := hide (fun h => tight_no HLA.out (by rw [← hik]; exact hlt) h)
      have HYS : Hid (tiB a b c k = true → ∀ j, j < k + 1 → j + 1 < m → tiB a b c j = true) := hide (fun h j h1 h2 => by
        rcases Nat.lt_or_ge j k with h3 | h3
        · exact HT.out j h3 h2
        · rw [show j = k by omega]; exact h)
      clear HT
      generalize b.getD k 0 = x at *
      generalize b.getD i 0 = y at *
      generalize c.getD k 0 = u at *
      generalize c.getD i 0 = v at *
      generalize tiB a b c k = t at *
      have hw1 : IntKind.i64.wrap ((i : Int) - 1) = (k : Int) := by rw [IntKind.wrap_i64]; omega
      have hw2 : (i : Int) - 1 = (k : Int) := by omega
      have hk2 : k < m := by omega
      clear hik
      by_cases hxy : y < x
      · have hd : decide ((y : Int) < (x : Int)) = true := decide_eq_true (by omega)
        have hdn : decide (y < x) = true := decide_eq_true hxy
        by_cases huv : u < v
        · have hd2 : decide ((u : Int) < (v : Int)) = true := decide_eq_true (by omega)
          have hdn2 : decide (u < v) = true := decide_eq_true huv
          have HF := hide (HNO.out (by rw [HV.out, hdn, hdn2]; rfl))
          clear HV HNO HYS
          go_upto_region 5 with fail
          go_quiet (fail)
          have HBE := hide (HW.out.trans ((below_drewN HWR.out nq).mono HW.out.size))
          go_wp2_with fail
          go_ret
          exact ⟨by rw [HF.out]; rfl, HBE.out⟩
        · have hd2 : decide ((u : Int) < (v : Int)) = false := decide_eq_false (by omega)
          have hdn2 : decide (u < v) = false := decide_eq_false huv
          have HF := hide (HYS.out (by rw [HV.out, hdn, hdn2]; rfl))
          clear HV HNO HYS
          go_upto_region 5 with fail
          go_quiet (fail)
          have HBE := hide (below_drewN HWR.out nq)
          go_wp2_with fail
          go_roundw
          case rel => exact ⟨k + 1, i + 1, by omega, by rw [HIK.out], by go_num, HF, HBE⟩
          case measure => simp [intOf]; omega
      · have hd : decide ((y : Int) < (x : Int)) = false := decide_eq_false (by omega)
        have hdn : decide (y < x) = false := decide_eq_false hxy
        have HF := hide (HYS.out (by rw [HV.out, hdn]; rfl))
        clear HV HNO HYS
        go_upto_region 5 with fail
        go_quiet (fail)
        have HBE := hide (below_drewN HWR.out nq)
        go_wp2_with fail
        go_roundw
        case rel => exact ⟨k + 1, i + 1, by omega, by rw [HIK.out], by go_num, HF, HBE⟩
        case measure => simp [intOf]; omega
    · clear hik
      have HF := hide (tight_yes HLA.out (b := b) (c := c) (fun j hj => HT.out j (by have := HIK.out; omega) hj))
      have HBE := hide (HW.out.trans (HWR.out.mono HW.out.size))
      clear HT
      go_wp2_with fail
      go_ret
      exact ⟨by rw [HF.out]; rfl, HBE.out⟩
end Go.Proofs.Ytoaiblhlpdaeoaa
/- perm.Check. -/
namespace Go.Proofs.Ytoaiblhlpdaeoaa
set_option linter.unusedVariables false
set_option linter.unusedSimpArgs false
open Go.RowKit

/-- The array 'seen': which of 0 to 8 lie in xs. -/
def seenA (xs : List Int) : Array Value := ((List.range 9).map fun j : Nat => Value.bool (decide ((j : Int) ∈ xs))).toArray
theorem seenA_get (xs : List Int) (j : Nat) (hj : j < 9) : (seenA xs)[j]? = some (.bool (decide ((j : Int) ∈ xs))) := by
  simp [seenA, hj]
theorem seenA_set (xs : List Int) (j : Nat) : (seenA xs).setIfInBounds j (.bool true) = seenA (xs ++ [(j : Int)]) := by
  apply Array.ext_getElem?
  intro i
  by_cases hi : i < 9
  · rw [seenA_get _ i hi, Array.getElem?_setIfInBounds]
    by_cases hij : j = i
    · subst hij
      have : j < (seenA xs).size := by simp [seenA]; omega
      simp [this]
    · rw [if_neg hij, seenA_get _ i hi]
      have : ¬ ((i : Int) = (j : Int)) := by omega
      simp [this]
  · rw [Array.getElem?_eq_none (by simp [seenA]; omega), Array.getElem?_eq_none (by simp [seenA]; omega)]

theorem pf_big {xs : List Int} (h : 9 < xs.length) : pf xs = 2 := by unfold pf; rw [if_pos h]
theorem pf_small {xs : List Int} (h : xs.length ≤ 9) : pf xs = pfGo xs.length [] xs := by unfold pf; rw [if_neg (by omega)]
theorem take_snoc (xs : List Int) (k : Nat) (h : k < xs.length) : xs.take (k + 1) = xs.take k ++ [xs.getD k 0] := by
  rw [List.take_succ_eq_append_getElem h]
  simp [List.getD, List.getElem?_eq_getElem h]

set_option maxHeartbeats 1000000 in
theorem check_any (A : Option Addr) (n c : Nat) (xs : List Int) (w : World) (ha : IL w A n xs) :
    Calls Try.prog 63 #[.slice A n c] w fun e w' => e = .returned (.int .i64 (pf xs)) ∧ Below w.heap.size w w' := by
  have hna := ha.small
  have HL := hide ha.len
  by_cases h9 : 9 < n
  · have HE := hide (pf_big (xs := xs) (by have := HL.out; omega))
    clear ha
    go_enter Try.func63, Try.ntmps63
    go_wp2
    go_ret
    rw [HE.out]
    exact ⟨rfl, Below.refl _ _⟩
  · go_enter Try.func63, Try.ntmps63
    go_wp2
    go_loopw [11] (fun i wr => ∃ k : Nat, k ≤ n ∧ i = .int .i64 k ∧ Hid (pf xs = pfGo xs.length (xs.take k) (xs.drop k)) ∧ Blk wr w.heap.size 104 (seenA (xs.take k)) ∧ Below w.heap.size w wr) (fun i _ => n - (intOf i).toNat)
    case atStart => exact ⟨0, Nat.zero_le _, rfl, pf_small (by have := HL.out; omega), Blk.new _ _ _, (Below.refl _ _).alloc (Nat.le_refl _) _⟩
    case round =>
      obtain ⟨k, hk, rfl, hpf, hblk, hnx⟩ := hrel
      have ha' := ha.below hnx
      by_cases hlt : k < n
      · obtain ⟨ad, rfl, hca⟩ := ha'.at_ hlt
        have HT := hide (take_snoc xs k (by have := HL.out; omega))
        have HP := hide (pf_step (xs := xs) (k := k) (by have := HL.out; omega))
        clear ha ha'
        generalize xs.getD k 0 = x at *
        by_cases h1 : x < 0
        · have HE : Hid (pf xs = 1) := by rw [hpf.out, HP.out, if_pos (.inl h1)]; exact rfl
          go_wp2
          go_ret
          rw [HE.out]
          exact ⟨rfl, hnx⟩
        · by_cases h2 : (n : Int) ≤ x
          · have HE : Hid (pf xs = 1) := by rw [hpf.out, HP.out, if_pos (.inr (by rw [HL.out]; exact h2))]; exact rfl
            go_wp2
            go_ret
            rw [HE.out]
            exact ⟨rfl, hnx⟩
          · obtain ⟨u, rfl⟩ : ∃ u : Nat, x = (u : Int) := ⟨x.toNat, by omega⟩
            have hu9 : u < 9 := by omega
            have hun : u < n := by omega
            have hcell := (hblk.cell u).trans (seenA_get _ u hu9)
            have hfr := hblk.frozen u
            by_cases h3 : (u : Int) ∈ xs.take k
            · have HE : Hid (pf xs = 5) := by rw [hpf.out, HP.out, if_neg (by rw [HL.out]; omega), if_pos h3]; exact rfl
              rw [decide_eq_true h3] at hcell
              clear h3
              go_wp2
              go_ret
              rw [HE.out]
              exact ⟨rfl, hnx⟩
            · have HE : Hid (pf xs = pfGo xs.length (xs.take (k + 1)) (xs.drop (k + 1))) := by rw [hpf.out, HP.out, if_neg (by rw [HL.out]; omega), if_neg h3]; exact rfl
              rw [decide_eq_false h3] at hcell
              clear h3
              go_wp2
              go_roundw
              case rel => exact ⟨k + 1, by omega, by go_num, HE, by rw [HT.out, ← seenA_set]; exact hblk.set_ _ _, hnx.setCell (Nat.le_refl _) _⟩
              case measure => simp [intOf]; omega
      · have HE : Hid (pf xs = 0) := by rw [hpf.out, pf_end xs _ k (by rw [HL.out]; omega)]; exact rfl
        go_wp2
        go_ret
        rw [HE.out]
        exact ⟨rfl, hnx⟩
end Go.Proofs.Ytoaiblhlpdaeoaa
/- timbref1.PermFault: a map of booleans. -/
namespace Go.Proofs.Ytoaiblhlpdaeoaa
set_option linter.unusedVariables false
set_option linter.unusedSimpArgs false
open Go.RowKit Go.Maps

theorem plainElem_bool_inv {H : Type} {P : Program} {e : TypeId} (he : P.underlying e = some .bool) {v : Value} {z : DataW H × List MemPlace} (h : plainElem P e v = some z) : ∃ x, v = .bool x ∧ z = (.lit (.bool x), []) := by
  unfold plainElem at h
  rw [he] at h
  cases v <;> simp at h
  obtain rfl := h
  exact ⟨_, rfl, rfl⟩

theorem wpList_lookup_own_bool {H : Type} {P : Program} (w : World) {ops : Array Oper} {rest : List Oper} {o : Oper} {a : Act} {Q : Exit → Act → World → Prop}
    (hg : o.guard = none) (m x : Operand) (t : TypeId) (hop : o.op = Op.lookup t m x false)
    (k e : TypeId) (K : Keyed P k) (ht : P.underlying t = some (.map k e)) (he : P.underlying e = some .bool) (hz : (zeroValue e).run P w = .ok (.bool false) w) (b n : Nat) (D : DataW H)
    (hm : a.eval m = .map (some b)) (hown : w.ownsMap P k (plainElem P e) b n D) (key : Value) (kl : Lit) (hx : a.eval x = key) (hkey : keyOf P k key = some kl)
    (hK : ∀ c : Bool, D.atKey kl (.lit (.bool false)) = .lit (.bool c) → wpList P ops Q rest (a.put o.dst (.bool c)) w) :
    wpList P ops Q (o :: rest) a w := by
  refine wpList_plain hg fun K' hK' => ?_
  obtain ⟨v, ps, hrun, hv⟩ := hown.lookup K ht hz (plainElem_bool he false) hkey
  obtain ⟨c, rfl, hc⟩ := plainElem_bool_inv he hv
  simp only [Prod.mk.injEq] at hc
  unfold Oper.wp
  simp [execOp, hop, hm, hx, hrun, Result.andThen]
  exact hK' _ _ (hK c hc.1)

theorem wf_small {x : Nat} (h : x < 9) : (Lit.int .i64 (x : Int)).wf = true := by
  simp [Lit.wf, IntKind.min, IntKind.max, IntKind.signed, IntKind.bits]
  omega
theorem key3 : Keyed Try.prog 3 := int_keyed Try.underlying3
theorem zero4 (w : World) : (zeroValue 4).run Try.prog w = .ok (.bool false) w := by kernel_rfl
theorem key_is (x : Int) : WideAt.IsKeyLit (.int .i64 x) := by
  simp [WideAt.IsKeyLit]

/-- The map 'seen': true for what lies in xs. -/
structure SeenM (w : World) (b n : Nat) (xs : List Int) : Prop where
  own : ∃ D : DataW Unit, w.ownsMap Try.prog 3 (plainElem Try.prog 4) b n D ∧ IsMap D ∧ ∀ x : Int, D.atKey (.int .i64 x) (.lit (.bool false)) = .lit (.bool (decide (x ∈ xs)))
theorem SeenM.made (w : World) : SeenM (w.alloc (.map #[] 0)) w.heap.size 0 [] := ⟨⟨.map [], World.ownsMap_made _ _ _ _, ⟨[], rfl⟩, fun x => by simp; rfl⟩⟩
theorem SeenM.step {D : DataW Unit} {xs : List Int} (hD : IsMap D) (h : ∀ x : Int, D.atKey (.int .i64 x) (.lit (.bool false)) = .lit (.bool (decide (x ∈ xs)))) (y : Int) :
    IsMap (D.put (.int .i64 y) (.lit (.bool true))) ∧ ∀ x : Int, (D.put (.int .i64 y) (.lit (.bool true))).atKey (.int .i64 x) (.lit (.bool false)) = .lit (.bool (decide (x ∈ xs ++ [y]))) := by
  refine ⟨?_, fun x => ?_⟩
  · obtain ⟨es, rfl⟩ := hD
    exact ⟨_, rfl⟩
  · by_cases e : x = y
    · subst e
      rw [atKey_put_same hD (key_is x)]
      simp
    · rw [atKey_put_other (by simpa using e), h x]
      simp [e]

set_option maxRecDepth 100000 in
set_option maxHeartbeats 1000000 in
theorem fault_any (A : Option Addr) (n c : Nat) (xs : List Int) (w : World) (ha : IL w A n xs) :
    Calls Try.prog 53 #[.slice A n c] w fun e w' => e = .returned (.int .i64 (pf xs)) ∧ Below w.heap.size w w' := by
  have hna := ha.small
  have HL := hide ha.len
  have hmm := @run_makeMap Try.prog
  by_cases h9 : 9 < n
  · have HE := hide (pf_big (xs := xs) (by have := HL.out; omega))
    clear ha
    go_enter Try.func53, Try.ntmps53
    go_wp2
    go_ret
    rw [HE.out]
    exact ⟨rfl, Below.refl _ _⟩
  · go_enter Try.func53, Try.ntmps53
    go_wp2
    go_loopw [12] (fun i wr => ∃ k : Nat, k ≤ n ∧ i = .int .i64 k ∧ Hid (pf xs = pfGo xs.length (xs.take k) (xs.drop k)) ∧ SeenM wr w.heap.size k (xs.take k) ∧ Below w.heap.size w wr) (fun i _ => n - (intOf i).toNat)
    case atStart => exact ⟨0, Nat.zero_le _, rfl, pf_small (by have := HL.out; omega), SeenM.made w, (Below.refl _ _).alloc (Nat.le_refl _) _⟩
    case round =>
      obtain ⟨k, hk, rfl, hpf, hseen, hnx⟩ := hrel
      have ha' := ha.below hnx
      by_cases hlt : k < n
      · obtain ⟨ad, rfl, hca⟩ := ha'.at_ hlt
        have HT := hide (take_snoc xs k (by have := HL.out; omega))
        have HP := hide (pf_step (xs := xs) (k := k) (by have := HL.out; omega))
        clear ha ha'
        generalize xs.getD k 0 = x at *
        by_cases h1 : x < 0
        · have HE : Hid (pf xs = 1) := by rw [hpf.out, HP.out, if_pos (.inl h1)]; exact rfl
          go_wp2
          go_ret
          rw [HE.out]
          exact ⟨rfl, hnx⟩
        · by_cases h2 : (n : Int) ≤ x
          · have HE : Hid (pf xs = 1) := by rw [hpf.out, HP.out, if_pos (.inr (by rw [HL.out]; exact h2))]; exact rfl
            go_wp2
            go_ret
            rw [HE.out]
            exact ⟨rfl, hnx⟩
          · obtain ⟨u, rfl⟩ : ∃ u : Nat, x = (u : Int) := ⟨x.toNat, by omega⟩
            have hu9 : u < 9 := by omega
            have hun : u < n := by omega
            obtain ⟨D, hown, hD, hat⟩ := hseen.own
            have HAT := hide (hat u)
            have HST := hide (SeenM.step hD hat u)
            have hkey : keyOf Try.prog 3 (.int .i64 (u : Int)) = some (.int .i64 (u : Int)) := keyOf_int_mk Try.underlying3 (wf_small hu9)
            have HKEY := hide hkey
            clear hkey hat hD hseen
            by_cases h3 : (u : Int) ∈ xs.take k
            · have HE : Hid (pf xs = 5) := by rw [hpf.out, HP.out, if_neg (by rw [HL.out]; omega), if_pos h3]; exact rfl
              have HC : Hid (∀ c : Bool, D.atKey (.int .i64 (u : Int)) (.lit (.bool false)) = .lit (.bool c) → c = true) := by
                intro c hc
                rw [HAT.out, decide_eq_true h3] at hc
                injection hc with hc
                injection hc with hc
                exact hc.symm
              clear h3
              go_wp2_with (at_lookup; refine wpList_lookup_own_bool _ rfl _ _ 98 rfl 3 4 key3 Try.underlying98 Try.underlying4 (zero4 _) w.heap.size k _ rfl hown _ _ rfl HKEY.out ?_; intro c hc; have hct := HC.out c hc; clear hc; subst hct)
              go_ret
              rw [HE.out]
              exact ⟨rfl, hnx⟩
            · have HE : Hid (pf xs = pfGo xs.length (xs.take (k + 1)) (xs.drop (k + 1))) := by rw [hpf.out, HP.out, if_neg (by rw [HL.out]; omega), if_neg h3]; exact rfl
              have HC : Hid (∀ c : Bool, D.atKey (.int .i64 (u : Int)) (.lit (.bool false)) = .lit (.bool c) → c = false) := by
                intro c hc
                rw [HAT.out, decide_eq_false h3] at hc
                injection hc with hc
                injection hc with hc
                exact hc.symm
              clear h3
              go_wp2_with (first | (at_lookup; refine wpList_lookup_own_bool _ rfl _ _ 98 rfl 3 4 key3 Try.underlying98 Try.underlying4 (zero4 _) w.heap.size k _ rfl hown _ _ rfl HKEY.out ?_; intro c hc; have hct := HC.out c hc; clear hc; subst hct) | (at_mapUpdate; refine wpList_mapUpdate_own _ rfl _ _ _ 98 rfl 3 4 key3 Try.underlying98 _ w.heap.size k _ rfl hown (by unfold maxLen; omega) _ _ _ rfl rfl HKEY.out _ [] (plainElem_bool Try.underlying4 true) ?_; intro w1 hown1 hgrow1))
              go_roundw
              case rel => exact ⟨k + 1, by omega, by go_num, HE, ⟨⟨_, hown1, HST.out.1, by rw [HT.out]; exact HST.out.2⟩⟩, hnx.grown hgrow1 hnx.size (fun j hj => by cases hj; exact Nat.le_refl _)⟩
              case measure => simp [intOf]; omega
      · have HE : Hid (pf xs = 0) := by rw [hpf.out, pf_end xs _ k (by rw [HL.out]; omega)]; exact rfl
        go_wp2
        go_ret
        rw [HE.out]
        exact ⟨rfl, hnx⟩
end Go.Proofs.Ytoaiblhlpdaeoaa
