/- Several texts of the walk in one. -/
import Derived.Test.YtihpmdfeonphpaaPart3
import Derived.Test.YtihpmdfeonphpaaBase
import Derived.Test.YtihpmdfeonphpaaPart1
import Derived.Test.YtihpmdfeonphpaaPart2
import Derived.Deep.DeepCutAuto
/- Braid words: what is wrong with one, where its strands end. -/
namespace Go.Proofs.Ytihpmdfeonphpaa
set_option linter.unusedVariables false
set_option linter.unusedSimpArgs false

def okX (n x : Int) : Bool := decide (x ≠ 0 ∧ x < n ∧ -n < x)
def bfault (n : Int) (w : List Int) : Int := if n < 1 ∨ 6 < n then 1 else if 30 < w.length then 2 else if w.all (okX n) then 0 else 3
theorem bfault_zero {n : Int} {w : List Int} (h : bfault n w = 0) : 1 ≤ n ∧ n ≤ 6 ∧ w.length ≤ 30 ∧ ∀ x ∈ w, x ≠ 0 ∧ x < n ∧ -n < x := by
  unfold bfault at h
  split at h
  · omega
  · next h1 =>
    split at h
    · omega
    · next h2 =>
      split at h
      · next h3 => exact ⟨by omega, by omega, by omega, fun x hx => by simpa [okX] using List.all_eq_true.1 h3 x hx⟩
      · omega
theorem bfault_ok {n : Int} {w : List Int} (h1 : 1 ≤ n) (h6 : n ≤ 6) (h : w.length ≤ 30) (hw : ∀ x ∈ w, x ≠ 0 ∧ x < n ∧ -n < x) : bfault n w = 0 := by
  unfold bfault
  rw [if_neg (by omega), if_neg (by omega), if_pos (List.all_eq_true.2 fun x hx => by simpa [okX] using hw x hx)]
/-- Where a strand goes at a letter. -/
def stepE (at_ : Nat) (x : Int) : Nat := if at_ + 1 = x.natAbs then at_ + 1 else if at_ = x.natAbs then at_ - 1 else at_
def endE (w : List Int) (s : Nat) : Nat := w.foldl stepE s
def endsL (n : Nat) (w : List Int) : List Nat := (List.range n).map (endE w)
theorem endsL_length (n : Nat) (w : List Int) : (endsL n w).length = n := by simp [endsL]
theorem stepE_lt {n at_ : Nat} {x : Int} (hx : x ≠ 0) (h1 : x.natAbs < n) (h : at_ < n) : stepE at_ x < n := by
  unfold stepE
  split
  · omega
  · split <;> omega
theorem endE_lt {n : Nat} : ∀ {w : List Int}, okB n w → ∀ {s : Nat}, s < n → endE w s < n
  | [], _, s, h => h
  | x :: w, hw, s, h => by
    show endE w (stepE s x) < n
    exact endE_lt (fun y hy => hw y (by simp [hy])) (stepE_lt (hw x (by simp)).1 (hw x (by simp)).2 h)
theorem endE_append (u v : List Int) (s : Nat) : endE (u ++ v) s = endE v (endE u s) := by unfold endE; rw [List.foldl_append]
theorem endE_snoc (w : List Int) (x : Int) (s : Nat) : endE (w ++ [x]) s = stepE (endE w s) x := by rw [endE_append]; rfl
theorem okB_of {n : Nat} {w : List Int} (h : ∀ x ∈ w, x ≠ 0 ∧ x < (n : Int) ∧ -(n : Int) < x) : okB n w := fun x hx => by have := h x hx; omega
/-- Words that act alike on all strands. -/
def RelE (a b : List Int) : Prop := ∀ s, endE a s = endE b s
theorem RelE.ends {a b : List Int} (h : RelE a b) (n : Nat) (u v : List Int) : endsL n (u ++ a ++ v) = endsL n (u ++ b ++ v) := by
  unfold endsL
  refine List.map_congr_left fun s _ => ?_
  rw [endE_append, endE_append, endE_append, endE_append, h]
theorem stepE_neg (s : Nat) (x : Int) : stepE s (-x) = stepE s x := by unfold stepE; rw [Int.natAbs_neg]
theorem stepE_twice {x : Int} (h : x ≠ 0) (s : Nat) : stepE (stepE s x) x = s := by
  unfold stepE
  by_cases h1 : s + 1 = x.natAbs
  · rw [if_pos h1, if_neg (by omega), if_pos (by omega)]; omega
  · rw [if_neg h1]
    by_cases h2 : s = x.natAbs
    · rw [if_pos h2, if_pos (by omega)]; omega
    · rw [if_neg h2, if_neg h1, if_neg h2]
theorem relE_braid {a : Nat} (h : 1 ≤ a) : RelE [(a : Int), ((a + 1 : Nat) : Int), (a : Int)] [((a + 1 : Nat) : Int), (a : Int), ((a + 1 : Nat) : Int)] := fun s => by
  show stepE (stepE (stepE s _) _) _ = stepE (stepE (stepE s _) _) _
  unfold stepE
  simp only [Int.natAbs_natCast]
  grind
theorem relE_x {x : Int} (h : x ≠ 0) : RelE [x, -x] [] := fun s => by
  show stepE (stepE s x) (-x) = s
  rw [stepE_neg, stepE_twice h]
theorem relE_comm {a b : Nat} (ha : 1 ≤ a) (hb : 1 ≤ b) (h : a + 2 ≤ b ∨ b + 2 ≤ a) : RelE [(a : Int), -(b : Int)] [-(b : Int), (a : Int)] := fun s => by
  show stepE (stepE s _) _ = stepE (stepE s _) _
  rw [stepE_neg, stepE_neg]
  unfold stepE
  simp only [Int.natAbs_natCast]
  grind
theorem endE_inv : ∀ (w : List Int), (∀ x ∈ w, x ≠ 0) → ∀ s, endE (w ++ invw w) s = s
  | [], _, _ => rfl
  | x :: w, h, s => by
    have e : invw (x :: w) = invw w ++ [-x] := by simp [invw]
    rw [e, show x :: w ++ (invw w ++ [-x]) = [x] ++ ((w ++ invw w) ++ [-x]) by simp, endE_append, endE_append, endE_inv w (fun y hy => h y (by simp [hy])), ← endE_append]
    exact relE_x (h x (by simp)) s
end Go.Proofs.Ytihpmdfeonphpaa
/- The Artin representation: the product of all generators is fixed; images are conjugates of generators. -/
namespace Go.Proofs.Ytihpmdfeonphpaa
set_option linter.unusedVariables false
set_option linter.unusedSimpArgs false

/-- The generators in their order. -/
def gens (n : Nat) : List Int := (List.range n).map fun (i : Nat) => ((i : Nat) : Int) + 1
theorem artW_id {y : Int} {u : List Int} (h : ∀ z ∈ u, ∃ k : Nat, z = (k : Int) ∧ k ≠ y.natAbs ∧ k ≠ y.natAbs + 1) : artW y u = u := by
  induction u with
  | nil => rfl
  | cons z u ih =>
    obtain ⟨k, rfl, h1, h2⟩ := h z (by simp)
    rw [artW_cons, artL_o h1 h2, ih fun x hx => h x (by simp [hx])]
    rfl
theorem gens_split {n a : Nat} (h0 : 0 < a) (h : a < n) : ∃ s : List Int, gens n = gens (a - 1) ++ [(a : Int), (a : Int) + 1] ++ s ∧ ∀ z ∈ s, ∃ k : Nat, z = (k : Int) ∧ a + 1 < k := by
  refine ⟨(List.range (n - a - 1)).map fun (i : Nat) => ((a + 1 + i : Nat) : Int) + 1, ?_, fun z hz => ?_⟩
  · unfold gens
    have e : n = (a - 1) + (1 + (1 + (n - a - 1))) := by omega
    conv => lhs; rw [e]
    rw [List.range_add, List.range_add, List.range_add]
    simp only [List.map_append, List.map_map, List.range_one, List.map_cons, List.map_nil, List.append_assoc, List.cons_append, List.nil_append, Function.comp_def]
    congr 1
    rw [show ((a - 1 + 0 : Nat) : Int) + 1 = (a : Int) by omega, show ((a - 1 + (1 + 0) : Nat) : Int) + 1 = (a : Int) + 1 by omega]
    congr 2
    exact List.map_congr_left fun i _ => by omega
  · obtain ⟨i, _, rfl⟩ := List.mem_map.1 hz
    exact ⟨a + 1 + i + 1, by omega, by omega⟩
theorem gens_nz (n : Nat) : nz (gens n) := fun z hz => by
  obtain ⟨i, _, rfl⟩ := List.mem_map.1 hz
  omega
theorem fixW {n : Nat} {y : Int} (hy : y ≠ 0) (hl : y.natAbs < n) : nf (artW y (gens n)) = nf (gens n) := by
  obtain ⟨a, ha⟩ : ∃ a, y.natAbs = a := ⟨_, rfl⟩
  obtain ⟨s, hs, hz⟩ := gens_split (n := n) (a := a) (by omega) (by omega)
  rw [hs, artW_append, artW_append]
  have e1 : artW y (gens (a - 1)) = gens (a - 1) := artW_id fun z hz => by
    obtain ⟨i, hi, rfl⟩ := List.mem_map.1 hz
    have := List.mem_range.1 hi
    exact ⟨i + 1, by omega, by omega, by omega⟩
  have e2 : artW y s = s := artW_id fun z hzz => by
    obtain ⟨k, hk, h1⟩ := hz z hzz
    exact ⟨k, hk, by omega, by omega⟩
  rw [e1, e2, ← nf_mid]
  have e3 : nf (artW y [(a : Int), (a : Int) + 1]) = nf [(a : Int), (a : Int) + 1] := by
    have ha0 : 0 < a := by omega
    by_cases hp : 0 < y
    · obtain rfl : y = (a : Int) := by omega
      rw [artW_cons, artW_one, artL_p ha0, artL_p1 ha0]
      simp only [List.cons_append, List.nil_append, nf, act, List.foldr, cns]
      grind
    · obtain rfl : y = -(a : Int) := by omega
      rw [artW_cons, artW_one, artL_n ha0, artL_n1 ha0]
      simp only [List.cons_append, List.nil_append, nf, act, List.foldr, cns]
      grind
  rw [e3, nf_mid]
/-- The product of all images is the product of all generators. -/
theorem fixC {n : Nat} : ∀ {w : List Int}, okB n w → nf (artC w (gens n)) = nf (gens n)
  | [], _ => rfl
  | y :: w, h => by
    have hy := h y (by simp)
    have hw : nz w := fun x hx => (h x (by simp [hx])).1
    rw [artC_cons, artC_congr hw (artW_nz hy.1 (gens_nz n)) (gens_nz n) (fixW hy.1 hy.2)]
    exact fixC fun x hx => h x (by simp [hx])
/-- A letter maps a generator to a conjugate of the one where its strand goes. -/
theorem artL_conj {y : Int} (hy : y ≠ 0) (s : Nat) : ∃ u, nz u ∧ artL y ((s : Int) + 1) = u ++ [((stepE s y : Nat) : Int) + 1] ++ invw u := by
  obtain ⟨a, ha⟩ : ∃ a, y.natAbs = a := ⟨_, rfl⟩
  have ha0 : 0 < a := by omega
  unfold stepE
  rw [ha]
  by_cases h1 : s + 1 = a
  · rw [if_pos h1]
    have e : (s : Int) + 1 = (a : Int) := by omega
    have e2 : ((s + 1 : Nat) : Int) + 1 = (a : Int) + 1 := by omega
    rw [e, e2]
    by_cases hp : 0 < y
    · obtain rfl : y = (a : Int) := by omega
      exact ⟨[(a : Int)], fun x hx => by simp at hx; omega, by rw [artL_p ha0]; simp [invw]⟩
    · obtain rfl : y = -(a : Int) := by omega
      exact ⟨[], nz_nil, by rw [artL_n ha0]; simp [invw]⟩
  · rw [if_neg h1]
    by_cases h2 : s = a
    · rw [if_pos h2]
      subst h2
      have e2 : ((s - 1 : Nat) : Int) + 1 = (s : Int) := by omega
      rw [e2]
      by_cases hp : 0 < y
      · obtain rfl : y = (s : Int) := by omega
        exact ⟨[], nz_nil, by rw [artL_p1 ha0]; simp [invw]⟩
      · obtain rfl : y = -(s : Int) := by omega
        exact ⟨[-(s : Int) - 1], fun x hx => by simp at hx; omega, by rw [artL_n1 ha0]; simp [invw]; omega⟩
    · rw [if_neg h2]
      refine ⟨[], nz_nil, ?_⟩
      rw [show (s : Int) + 1 = ((s + 1 : Nat) : Int) by omega, artL_o (by omega) (by omega)]
      simp [invw]
theorem artC_conj : ∀ {w : List Int}, nz w → ∀ s : Nat, ∃ u, nz u ∧ nf (artC w [(s : Int) + 1]) = nf (u ++ [((endE w s : Nat) : Int) + 1] ++ invw u)
  | [], _, s => ⟨[], nz_nil, by simp [invw]; rfl⟩
  | y :: w, h, s => by
    have hw : nz w := fun x hx => h x (by simp [hx])
    obtain ⟨u, hu, e⟩ := artL_conj (h y (by simp)) s
    obtain ⟨v, hv, e2⟩ := artC_conj hw (stepE s y)
    refine ⟨artC w u ++ v, (artC_nz hw hu).app hv, ?_⟩
    rw [artC_cons, artW_one, e, artC_append, artC_append, artC_invw hw hu, ← nf_mid, e2, nf_mid, invw_append]
    show _ = nf (artC w u ++ v ++ [((endE w (stepE s y) : Nat) : Int) + 1] ++ (invw v ++ invw (artC w u)))
    simp
end Go.Proofs.Ytihpmdfeonphpaa
/- timbref1.BraidFault, Index, Ends. -/
namespace Go.Proofs.Ytihpmdfeonphpaa
set_option linter.unusedVariables false
set_option linter.unusedSimpArgs false
open Go.RowKit

set_option maxHeartbeats 2000000 in
theorem braidFault_any (m : Int) (A : Option Addr) (n c : Nat) (xs : List Int) (w : World) (ha : IL w A n xs) (hm : (Lit.int .i64 m).wf = true) :
    Calls Try.prog 9 #[.int .i64 m, .slice A n c] w fun e w' => e = .returned (.int .i64 (bfault m xs)) ∧ w = w' := by
  have hl := ha.len
  have hns := ha.small
  have HA := hide ha
  have HL := hide hl
  have HM := hide hm
  clear ha hl hm
  by_cases h1 : m < 1
  · have HF : Hid (bfault m xs = 1) := hide (by unfold bfault; rw [if_pos (.inl h1)])
    go_enter Try.func9, Try.ntmps9
    go_wp2
    go_ret
    rw [HF.out]
    exact ⟨rfl, rfl⟩
  by_cases h6 : 6 < m
  · have HF : Hid (bfault m xs = 1) := hide (by unfold bfault; rw [if_pos (.inr h6)])
    go_enter Try.func9, Try.ntmps9
    go_wp2
    go_ret
    rw [HF.out]
    exact ⟨rfl, rfl⟩
  by_cases h30 : 30 < n
  · have HF : Hid (bfault m xs = 2) := hide (by unfold bfault; rw [if_neg (by omega), if_pos (by rw [HL.out]; exact h30)])
    go_enter Try.func9, Try.ntmps9
    go_wp2
    go_ret
    rw [HF.out]
    exact ⟨rfl, rfl⟩
  · have HF : Hid (bfault m xs = if xs.all (okX m) then 0 else 3) := hide (by unfold bfault; rw [if_neg (by omega), if_neg (by rw [HL.out]; exact h30)])
    have hwm : IntKind.i64.wrap (-m) = -m := by rw [IntKind.wrap_i64]; omega
    go_enter Try.func9, Try.ntmps9
    go_wp2
    go_loop [18] (fun iv => ∃ k : Nat, k ≤ n ∧ iv = .int .i64 k ∧ Hid ((xs.take k).all (okX m) = true)) (fun iv => n - (intOf iv).toNat)
    case atStart => exact ⟨0, Nat.zero_le _, rfl, by rw [List.take_zero]; exact rfl⟩
    case round =>
      obtain ⟨k, hk, rfl, HK⟩ := hrel
      by_cases hlt : k < n
      · obtain ⟨ad, rfl, hcl⟩ := HA.out.at_ hlt
        have hkl : k < xs.length := by rw [HL.out]; exact hlt
        have hget : xs.getD k 0 = xs[k] := by simp [List.getD, List.getElem?_eq_getElem hkl]
        have HT : Hid ((xs.take (k + 1)).all (okX m) = ((xs.take k).all (okX m) && okX m (xs.getD k 0))) := hide (by rw [List.take_succ_eq_append_getElem hkl, List.all_append, hget]; simp)
        have HM : Hid (xs.getD k 0 ∈ xs) := hide (by rw [hget]; exact List.getElem_mem _)
        clear hkl hget
        generalize xs.getD k 0 = x at *
        by_cases hok : x ≠ 0 ∧ x < m ∧ -m < x
        · have HN : Hid ((xs.take (k + 1)).all (okX m) = true) := hide (by rw [HT.out, HK.out]; simp [okX, hok])
          obtain ⟨h0, h2, h3⟩ := hok
          have hb : (x == 0) = false := by simpa using h0
          clear h0
          go_wp2
          go_round
          case rel => exact ⟨k + 1, by omega, by go_num, HN.out⟩
          case measure => simp [intOf]; omega
        · have HN : Hid (xs.all (okX m) = false) := hide (by
            rw [Bool.eq_false_iff]
            intro h
            have := List.all_eq_true.1 h x HM.out
            exact hok (by simpa [okX] using this))
          rw [HN.out] at HF
          by_cases h0 : x = 0
          · subst h0
            clear hok
            go_wp2
            go_ret
            rw [HF.out]
            exact ⟨rfl, rfl⟩
          · have hb : (x == 0) = false := by simpa using h0
            by_cases h2 : m ≤ x
            · clear hok h0
              go_wp2
              go_ret
              rw [HF.out]
              exact ⟨rfl, rfl⟩
            · have h3 : x ≤ -m := by
                rcases Int.lt_or_le (-m) x with h | h
                · exact absurd ⟨h0, by omega, h⟩ hok
                · exact h
              clear hok h0
              go_wp2
              go_ret
              rw [HF.out]
              exact ⟨rfl, rfl⟩
      · have HE : Hid (xs.all (okX m) = true) := hide (by
          have := HK.out
          rwa [List.take_of_length_le (by rw [HL.out]; omega)] at this)
        rw [HE.out] at HF
        go_wp2
        go_ret
        rw [HF.out]
        exact ⟨rfl, rfl⟩

set_option maxHeartbeats 1000000 in
theorem index_any_ (x : Int) (w : World) (hx : x.natAbs ≤ 1000000) : Calls Try.prog 32 #[.int .i64 x] w fun e w' => e = .returned (.int .i64 (x.natAbs : Int)) ∧ w = w' := by
  have hw : IntKind.i64.wrap (-x) = -x := by rw [IntKind.wrap_i64]; omega
  by_cases h : 0 ≤ x
  · obtain ⟨a, rfl⟩ : ∃ a : Nat, x = (a : Int) := ⟨x.natAbs, by omega⟩
    rw [Int.natAbs_natCast]
    have hm : max (a : Int) (-(a : Int)) = (a : Int) := by omega
    go_enter Try.func32, Try.ntmps32
    go_wp2
    all_goals first | (exfalso; omega) | (go_ret; exact ⟨rfl, rfl⟩)
  · obtain ⟨a, rfl⟩ : ∃ a : Nat, x = -(a : Int) := ⟨x.natAbs, by omega⟩
    rw [Int.natAbs_neg, Int.natAbs_natCast, Int.neg_neg] at *
    have hm : max (-(a : Int)) (a : Int) = (a : Int) := by omega
    go_enter Try.func32, Try.ntmps32
    go_wp2
    all_goals first | (exfalso; omega) | (go_ret; exact ⟨rfl, rfl⟩)

/-- The ends of the first k strands. -/
def endK (n : Nat) (w : List Int) (k : Nat) : List Int := (List.range n).map fun i => if i < k then ((endE w i : Nat) : Int) else 0
theorem endK_zero (n : Nat) (w : List Int) : endK n w 0 = List.replicate n 0 := by
  unfold endK
  refine List.ext_getElem (by simp) fun i h1 h2 => ?_
  simp
theorem endK_all (n : Nat) (w : List Int) : endK n w n = zs (endsL n w) := by
  unfold endK zs endsL
  rw [List.map_map]
  refine List.map_congr_left fun i hi => ?_
  rw [if_pos (List.mem_range.1 hi)]
  rfl
theorem endK_set {n : Nat} (w : List Int) {k : Nat} (hk : k < n) : (endK n w k).set k ((endE w k : Nat) : Int) = endK n w (k + 1) := by
  unfold endK
  refine List.ext_getElem (by simp) fun i h1 h2 => ?_
  simp only [List.length_map, List.length_range, List.length_set] at h1 h2
  rw [List.getElem_set]
  simp only [List.getElem_map, List.getElem_range]
  by_cases h : k = i
  · subst h; rw [if_pos rfl, if_pos (by omega)]
  · rw [if_neg h]
    by_cases h3 : i < k
    · rw [if_pos h3, if_pos (by omega)]
    · rw [if_neg h3, if_neg (by omega)]
theorem endE_take {w : List Int} {k : Nat} (h : k < w.length) (s : Nat) : endE (w.take (k + 1)) s = stepE (endE (w.take k) s) (w.getD k 0) := by
  rw [List.take_succ_eq_append_getElem h, endE_snoc]
  simp [List.getD, List.getElem?_eq_getElem h]

end Go.Proofs.Ytihpmdfeonphpaa
/- Images under short braid words are short; what package artin's functions are to answer. -/
namespace Go.Proofs.Ytihpmdfeonphpaa
set_option linter.unusedVariables false
set_option linter.unusedSimpArgs false
open Go.RowKit

theorem artL_len3 (y z : Int) : (artL y z).length ≤ 3 := by
  unfold artL artV
  (repeat' split) <;> simp [invw]
theorem artW_len3 (y : Int) : ∀ u : List Int, (artW y u).length ≤ 3 * u.length
  | [] => Nat.le_refl _
  | z :: u => by
    rw [artW_cons, List.length_append, List.length_cons]
    have := artW_len3 y u
    have := artL_len3 y z
    omega
def sixL : List Int := [1, -1, 2, -2, 3, -3, 4, -4, 5, -5]
theorem sixL_mem {y : Int} (h0 : y ≠ 0) (h : y.natAbs < 6) : y ∈ sixL := by
  have : y = 1 ∨ y = -1 ∨ y = 2 ∨ y = -2 ∨ y = 3 ∨ y = -3 ∨ y = 4 ∨ y = -4 ∨ y = 5 ∨ y = -5 := by omega
  rcases this with rfl | rfl | rfl | rfl | rfl | rfl | rfl | rfl | rfl | rfl <;> decide
def chkA : Nat → List Int → Bool
  | 0, u => decide (u.length ≤ 54)
  | d + 1, u => decide (u.length * 3 ^ (d + 1) ≤ 54) || (decide (u.length ≤ 54) && sixL.all fun y => chkA d (nf (artW y u)))
theorem artF_len : ∀ (w u : List Int), (artF w u).length ≤ u.length * 3 ^ w.length
  | [], u => by show u.length ≤ _; simp
  | y :: w, u => by
    show (artF w (nf (artW y u))).length ≤ _
    have h1 := artF_len w (nf (artW y u))
    have h2 := nf_len_le (artW y u)
    have h3 := artW_len3 y u
    have h4 : (nf (artW y u)).length * 3 ^ w.length ≤ (3 * u.length) * 3 ^ w.length := Nat.mul_le_mul_right _ (by omega)
    rw [List.length_cons, Nat.pow_succ, Nat.mul_comm (3 ^ w.length), ← Nat.mul_assoc, Nat.mul_comm u.length]
    omega
theorem chkA_spec : ∀ (d : Nat) (u : List Int), chkA d u = true → ∀ w : List Int, w.length ≤ d → (∀ y ∈ w, y ≠ 0 ∧ y.natAbs < 6) → (artF w u).length ≤ 54
  | 0, u, h, w, hw, _ => by
    rw [List.eq_nil_of_length_eq_zero (by omega : w.length = 0)]
    show u.length ≤ 54
    simpa [chkA] using h
  | d + 1, u, h, w, hw, hl => by
    unfold chkA at h
    rw [Bool.or_eq_true] at h
    rcases h with h | h
    · have h := of_decide_eq_true h
      have h1 := artF_len w u
      have h2 : 3 ^ w.length ≤ 3 ^ (d + 1) := Nat.pow_le_pow_right (by omega) hw
      have h3 := Nat.mul_le_mul_left u.length h2
      omega
    · rw [Bool.and_eq_true] at h
      cases w with
      | nil => exact of_decide_eq_true h.1
      | cons y w =>
        have h2 := List.all_eq_true.1 h.2 y (sixL_mem (hl y (by simp)).1 (hl y (by simp)).2)
        exact chkA_spec d _ h2 w (by simpa using hw) fun z hz => hl z (by simp [hz])
theorem chkA_all : ([1, 2, 3, 4, 5, 6] : List Int).all (fun z => chkA 5 [z]) = true := by decide +kernel
theorem artW_far {y : Int} {k : Nat} (h : y.natAbs + 1 < k) : artW y [(k : Int)] = [(k : Int)] := by
  rw [artW_one, artL_o (by omega) (by omega)]
theorem artC_far {k : Nat} : ∀ {w : List Int}, (∀ y ∈ w, y.natAbs + 1 < k) → artC w [(k : Int)] = [(k : Int)]
  | [], _ => rfl
  | y :: w, h => by
    rw [artC_cons, artW_far (h y (by simp))]
    exact artC_far fun z hz => h z (by simp [hz])
theorem img5 {w : List Int} (hw : ∀ y ∈ w, y ≠ 0 ∧ y.natAbs < 6) (hl : w.length ≤ 5) {z : Int} (hz : z ≠ 0) : (nf (artC w [z])).length ≤ 54 := by
  have hnz : nz w := fun y hy => (hw y hy).1
  have pos : ∀ k : Nat, 0 < k → (nf (artC w [(k : Int)])).length ≤ 54 := fun k hk => by
    by_cases h6 : k ≤ 6
    · have h1 : chkA 5 [(k : Int)] = true := List.all_eq_true.1 chkA_all _ (by
        have : k = 1 ∨ k = 2 ∨ k = 3 ∨ k = 4 ∨ k = 5 ∨ k = 6 := by omega
        rcases this with rfl | rfl | rfl | rfl | rfl | rfl <;> decide)
      have h2 := chkA_spec 5 _ h1 w hl hw
      have h3 := artF_nf hnz (u := [(k : Int)]) (fun x hx => by simp at hx; omega)
      rw [show nf [(k : Int)] = [(k : Int)] from rfl] at h3
      rw [← h3]
      exact h2
    · rw [artC_far fun y hy => by have := (hw y hy).2; omega]
      exact Nat.le_trans (nf_len_le _) (by simp)
  rcases Int.natAbs_eq z with e | e
  · rw [e]; exact pos _ (by omega)
  · have h1 := artC_invw (w := w) (u := [(z.natAbs : Int)]) hnz (fun x hx => by simp at hx; omega)
    rw [show invw [(z.natAbs : Int)] = [z] by simp [invw]; omega] at h1
    rw [h1, nf_invw, invw_length]
    exact pos _ (by omega)
theorem imgs5 {w : List Int} (hw : ∀ y ∈ w, y ≠ 0 ∧ y.natAbs < 6) (hl : w.length ≤ 5) : ∀ {u : List Int}, nz u → (nf (artC w u)).length ≤ 54 * u.length
  | [], _ => by rw [artC_nil]; exact Nat.le_refl _
  | z :: u, h => by
    have e : artC w (z :: u) = artC w [z] ++ artC w u := artC_append w [z] u
    have h1 := img5 hw hl (z := z) (h z (by simp))
    have h2 := imgs5 hw hl (u := u) fun x hx => h x (by simp [hx])
    rw [e, ← nf_left, ← nf_right]
    have h3 := nf_len_le (nf (artC w [z]) ++ nf (artC w u))
    rw [List.length_append] at h3
    rw [List.length_cons]
    omega
/-- Words of at most 10 letters. -/
theorem img10 {w : List Int} (hw : ∀ y ∈ w, y ≠ 0 ∧ y.natAbs < 6) (hl : w.length ≤ 10) {z : Int} (hz : z ≠ 0) : (nf (artC w [z])).length ≤ 3000 := by
  have e : w = w.take 5 ++ w.drop 5 := (List.take_append_drop 5 w).symm
  have m1 : ∀ y ∈ w.take 5, y ≠ 0 ∧ y.natAbs < 6 := fun y hy => hw y (List.mem_of_mem_take hy)
  have m2 : ∀ y ∈ w.drop 5, y ≠ 0 ∧ y.natAbs < 6 := fun y hy => hw y (List.mem_of_mem_drop hy)
  have n1 : nz (w.take 5) := fun y hy => (m1 y hy).1
  have n2 : nz (w.drop 5) := fun y hy => (m2 y hy).1
  have hz1 : nz [z] := fun x hx => by simp at hx; omega
  rw [e, artC_app]
  have h1 := img5 m1 (by simp; omega) hz
  have h2 := imgs5 m2 (by simp; omega) (u := nf (artC (w.take 5) [z])) (artC_nz n1 hz1).nf
  rw [artC_congr n2 (artC_nz n1 hz1) (artC_nz n1 hz1).nf (nf_nf _).symm]
  omega

/-- The images. -/
def imgs (n : Nat) (w : List Int) : List (List Int) := (List.range n).map fun (s : Nat) => nf (artC w [((s : Nat) : Int) + 1])
theorem imgs_length (n : Nat) (w : List Int) : (imgs n w).length = n := by simp [imgs]
theorem imgs_getD {n s : Nat} (w : List Int) (h : s < n) : (imgs n w).getD s [] = nf (artC w [((s : Nat) : Int) + 1]) := by simp [imgs, List.getD, h]
/-- Is an image of the word, or of what remains of it, too long? -/
def longA (n : Nat) (w : List Int) : Bool := (List.range (w.length + 1)).any fun k => (imgs n (w.drop k)).any fun u => decide (3000 < u.length)
def artE (n : Int) (w : List Int) : Int := if bfault n w ≠ 0 then bfault n w else if longA n.toNat w then 2 else 0
def artI (n : Int) (w : List Int) : List (List Int) := if artE n w = 0 then imgs n.toNat w else []
/-- All that is wrong with a, then with b (as the document says). -/
def eqE (n : Int) (a b : List Int) : Int := if artE n a ≠ 0 then artE n a else artE n b
def eqA (n : Int) (a b : List Int) : Bool := decide (eqE n a b = 0) && decide (imgs n.toNat a = imgs n.toNat b)
theorem long_short {n : Nat} (hn : n ≤ 6) {w : List Int} (hw : okB n w) (hl : w.length ≤ 10) : longA n w = false := by
  unfold longA
  rw [List.any_eq_false]
  intro k _
  rw [Bool.not_eq_true, List.any_eq_false]
  intro u hu
  unfold imgs at hu
  obtain ⟨s, _, rfl⟩ := List.mem_map.1 hu
  have h := img10 (w := w.drop k) (fun y hy => by have := hw y (List.mem_of_mem_drop hy); omega) (by simp; omega) (z := ((s : Nat) : Int) + 1) (by omega)
  simp
  omega
theorem artE_short {n : Int} {w : List Int} (hl : w.length ≤ 10) : artE n w = bfault n w := by
  unfold artE
  by_cases h : bfault n w = 0
  · obtain ⟨h1, h2, _, h4⟩ := bfault_zero h
    rw [if_neg (by simp [h]), long_short (n := n.toNat) (by omega) (okB_of fun x hx => by have := h4 x hx; omega) hl, h]
    rfl
  · rw [if_pos h]
theorem eqE_short {n : Int} {a b : List Int} (ha : a.length ≤ 10) (hb : b.length ≤ 10) : eqE n a b = if bfault n a ≠ 0 then bfault n a else bfault n b := by
  unfold eqE
  rw [artE_short ha, artE_short hb]
theorem relA_trans {a b d : List Int} (h : RelA a b) (k : RelA b d) : RelA a d := fun u hu => (h u hu).trans (k u hu)
theorem relA_x {x : Int} (h : x ≠ 0) : RelA [x, -x] [] := by
  rcases Int.natAbs_eq x with e | e
  · rw [e]; exact relA_pn (by omega)
  · rw [e, Int.neg_neg]; exact relA_np (by omega)
theorem nz_invw {w : List Int} (h : nz w) : nz (invw w) := h.inv
theorem relA_inv : ∀ {w : List Int}, nz w → RelA (w ++ invw w) []
  | [], _ => fun _ _ => rfl
  | x :: w, h => by
    have hx : x ≠ 0 := h x (by simp)
    have hw : nz w := fun z hz => h z (by simp [hz])
    have h1 := (relA_inv hw).mid (hw.app (nz_invw hw)) nz_nil (p := [x]) (s := [-x]) (fun z hz => by simp at hz; omega) (fun z hz => by simp at hz; omega)
    have e : x :: w ++ invw (x :: w) = [x] ++ (w ++ invw w) ++ [-x] := by rw [invw_cons]; simp
    rw [e]
    exact relA_trans h1 (relA_x hx)
theorem relA_inv' {w : List Int} (h : nz w) : RelA (invw w ++ w) [] := by
  have := relA_inv (nz_invw h)
  rwa [invw_invw] at this
theorem okB_nz {n : Nat} {w : List Int} (h : okB n w) : nz w := fun x hx => by have := h x hx; omega
/-- Words with the same images act alike. -/
theorem relA_imgs {n : Nat} {a b : List Int} (ha : okB n a) (hb : okB n b) : RelA a b ↔ imgs n a = imgs n b := by
  constructor
  · intro h
    unfold imgs
    exact List.map_congr_left fun s _ => h _ fun z hz => by simp at hz; omega
  · intro h
    refine relA_of (okB_nz ha) (okB_nz hb) fun k hk => ?_
    by_cases hkn : k ≤ n
    · have e : (imgs n a).getD (k - 1) [] = (imgs n b).getD (k - 1) [] := by rw [h]
      rw [imgs_getD a (by omega), imgs_getD b (by omega)] at e
      rwa [show (((k - 1 : Nat) : Int) + 1) = (k : Int) by omega] at e
    · rw [artC_far fun y hy => by have := ha y hy; omega, artC_far fun y hy => by have := hb y hy; omega]
theorem okB_app {n : Nat} {a b : List Int} (ha : okB n a) (hb : okB n b) : okB n (a ++ b) := fun x hx => (List.mem_append.1 hx).elim (ha x) (hb x)
theorem okB_inv {n : Nat} {a : List Int} (ha : okB n a) : okB n (invw a) := fun x hx => by
  unfold invw at hx
  obtain ⟨z, hz, rfl⟩ := List.mem_map.1 (List.mem_reverse.1 hx)
  have := ha z hz
  omega
theorem relA_quot {n : Nat} {a b : List Int} (ha : okB n a) (hb : okB n b) : RelA a b ↔ RelA (invw a ++ b) [] := by
  have na := okB_nz ha
  have nb := okB_nz hb
  constructor
  · intro h
    have h1 := h.mid na nb (p := invw a) (s := []) (nz_invw na) nz_nil
    rw [List.append_nil, List.append_nil] at h1
    exact relA_trans h1.symm (relA_inv' na)
  · intro h
    have h1 := h.mid ((nz_invw na).app nb) nz_nil (p := a) (s := []) na nz_nil
    rw [List.append_nil, List.append_nil, List.append_nil] at h1
    have h2 := (relA_inv na).mid (na.app (nz_invw na)) nz_nil (p := []) (s := b) nz_nil nb
    rw [List.nil_append, List.nil_append, List.append_assoc, List.nil_append] at h2
    exact relA_trans h1.symm h2
theorem imgs_fix {n : Nat} {w : List Int} (hw : okB n w) : RelA w [] ↔ (List.range n).all (fun (s : Nat) => eqB (artF w [((s : Nat) : Int) + 1]) [((s : Nat) : Int) + 1]) = true := by
  have hf : ∀ s : Nat, artF w [((s : Nat) : Int) + 1] = nf (artC w [((s : Nat) : Int) + 1]) := fun s => by
    have h := artF_nf (w := w) (u := [((s : Nat) : Int) + 1]) (okB_nz hw) (fun x hx => by simp at hx; omega)
    rwa [show nf [((s : Nat) : Int) + 1] = [((s : Nat) : Int) + 1] from rfl] at h
  rw [List.all_eq_true]
  constructor
  · intro h s _
    rw [hf]
    exact eqB_true (h _ fun z hz => by simp at hz; omega)
  · intro h
    refine relA_of (okB_nz hw) nz_nil fun k hk => ?_
    by_cases hkn : k ≤ n
    · have e := eqB_iff.1 (h (k - 1) (List.mem_range.2 (by omega)))
      rw [hf, show (((k - 1 : Nat) : Int) + 1) = (k : Int) by omega] at e
      exact e
    · rw [artC_far fun y hy => by have := hw y hy; omega]
      rfl
/-- Lists of words and an error. -/
def GivesLLE (w : World) (err : Int) (xss : List (List Int)) (e : Ending) (w' : World) : Prop :=
  ∃ A n c, e = .returned (.tuple #[.slice A n c, .int .i64 err]) ∧ SLL w' A n c xss ∧ Below w.heap.size w w'
/-- Package artin, as the document asks. -/
structure ArtinC : Prop where
  images : ∀ (m : Int) (A : Option Addr) (n c : Nat) (xs : List Int) (w : World), SL w A n c xs → (Lit.int .i64 m).wf = true → Calls Try.prog 7 #[.int .i64 m, .slice A n c] w (GivesLLE w (artE m xs) (artI m xs)) -- 7
  equal : ∀ (m : Int) (A : Option Addr) (n c : Nat) (xs : List Int) (B : Option Addr) (k d : Nat) (ys : List Int) (w : World), SL w A n c xs → SL w B k d ys → (Lit.int .i64 m).wf = true → Calls Try.prog 11 #[.int .i64 m, .slice A n c, .slice B k d] w fun e w' => e = .returned (.tuple #[.bool (eqA m xs ys), .int .i64 (eqE m xs ys)]) ∧ Below w.heap.size w w' -- 11
end Go.Proofs.Ytihpmdfeonphpaa
/- Slices of polynomials, and slices of these (words on memory). -/
namespace Go.Proofs.Ytihpmdfeonphpaa
set_option linter.unusedVariables false
set_option linter.unusedSimpArgs false
open Go.RowKit

abbrev Po := Int × List Int
/-- A slice of polynomials that reads as ps. -/
structure SPo (w : World) (A : Option Addr) (n c : Nat) (ps : List Po) : Prop where
  len : ps.length = n
  small : n ≤ 17592186044416
  nil : A = none → n = 0 ∧ c = 0
  cap : n ≤ c
  mem : 0 < n → ∃ ad, A = some ad ∧ ad.block < w.heap.size ∧ ∀ j, j < n → ∃ B m d, w.cell? (ad.add (j * 2)) = some (.int .i64 (ps.getD j (0, [])).1) ∧ w.cell? ⟨(ad.add (j * 2)).block, (ad.add (j * 2)).off + 1, none⟩ = some (.slice B m d) ∧ SL w B m d (ps.getD j (0, [])).2 ∧ (Lit.int .i64 (ps.getD j (0, [])).1).wf = true
theorem SPo.below {w w' : World} {A : Option Addr} {n c : Nat} {ps : List Po} (h : SPo w A n c ps) (hb : Below w.heap.size w w') : SPo w' A n c ps :=
  ⟨h.len, h.small, h.nil, h.cap, fun hn => by
    obtain ⟨ad, e, hl, hc⟩ := h.mem hn
    refine ⟨ad, e, Nat.lt_of_lt_of_le hl hb.size, fun j hj => ?_⟩
    obtain ⟨B, m, d, h1, h2, h3, h4⟩ := hc j hj
    exact ⟨B, m, d, (hb.cell (p := ad.add (j * 2)) (by rw [block_of_add]; exact hl)).trans h1, (hb.cell (p := ⟨(ad.add (j * 2)).block, (ad.add (j * 2)).off + 1, none⟩) (by show (ad.add (j * 2)).block < _; rw [block_of_add]; exact hl)).trans h2, h3.below hb, h4⟩⟩
/-- A slice of slices of polynomials. -/
structure SPP (w : World) (A : Option Addr) (n c : Nat) (pss : List (List Po)) : Prop where
  len : pss.length = n
  small : n ≤ 17592186044416
  nil : A = none → n = 0 ∧ c = 0
  cap : n ≤ c
  mem : 0 < n → ∃ ad, A = some ad ∧ ad.block < w.heap.size ∧ ∀ j, j < n → ∃ B m d, w.cell? (ad.add j) = some (.slice B m d) ∧ SPo w B m d (pss.getD j [])
theorem SPP.below {w w' : World} {A : Option Addr} {n c : Nat} {pss : List (List Po)} (h : SPP w A n c pss) (hb : Below w.heap.size w w') : SPP w' A n c pss :=
  ⟨h.len, h.small, h.nil, h.cap, fun hn => by
    obtain ⟨ad, e, hl, hc⟩ := h.mem hn
    refine ⟨ad, e, Nat.lt_of_lt_of_le hl hb.size, fun j hj => ?_⟩
    obtain ⟨B, m, d, h1, h2⟩ := hc j hj
    exact ⟨B, m, d, (hb.cell (p := ad.add j) (by rw [block_of_add]; exact hl)).trans h1, h2.below hb⟩⟩
theorem SPP.at_ {w : World} {A : Option Addr} {n c k : Nat} {pss : List (List Po)} (h : SPP w A n c pss) (hk : k < n) : ∃ ad B m d, A = some ad ∧ w.cell? (ad.add k) = some (.slice B m d) ∧ SPo w B m d (pss.getD k []) := by
  obtain ⟨ad, e, _, hc⟩ := h.mem (by omega)
  obtain ⟨B, m, d, h1, h2⟩ := hc k hk
  exact ⟨ad, B, m, d, e, h1, h2⟩
theorem SPo.at_ {w : World} {A : Option Addr} {n c k : Nat} {ps : List Po} (h : SPo w A n c ps) (hk : k < n) : ∃ ad B m d, A = some ad ∧ w.cell? (ad.add (k * 2)) = some (.int .i64 (ps.getD k (0, [])).1) ∧ w.cell? ⟨(ad.add (k * 2)).block, (ad.add (k * 2)).off + 1, none⟩ = some (.slice B m d) ∧ SL w B m d (ps.getD k (0, [])).2 ∧ (Lit.int .i64 (ps.getD k (0, [])).1).wf = true := by
  obtain ⟨ad, e, _, hc⟩ := h.mem (by omega)
  obtain ⟨B, m, d, h1, h2, h3, h4⟩ := hc k hk
  exact ⟨ad, B, m, d, e, h1, h2, h3, h4⟩
end Go.Proofs.Ytihpmdfeonphpaa
/- timbref1.PolyFault and Fits. -/
namespace Go.Proofs.Ytihpmdfeonphpaa
set_option linter.unusedVariables false
set_option linter.unusedSimpArgs false
open Go.RowKit

theorem LP.pfl_big {lo : Int} {xs : List Int} (h : 200 < xs.length ∨ 1000 < lo ∨ lo < -1000) : LP.pfl lo xs = 2 := by unfold LP.pfl; rw [if_pos h]
theorem LP.pfl_bad {lo : Int} {xs : List Int} (h : ¬ (200 < xs.length ∨ 1000 < lo ∨ lo < -1000)) (h2 : (xs.length = 0 ∧ lo ≠ 0) ∨ (0 < xs.length ∧ (xs.getD 0 0 = 0 ∨ xs.getD (xs.length - 1) 0 = 0))) : LP.pfl lo xs = 3 := by unfold LP.pfl; rw [if_neg h, if_pos h2]
theorem LP.pfl_loop {lo : Int} {xs : List Int} (h : ¬ (200 < xs.length ∨ 1000 < lo ∨ lo < -1000)) (h2 : ¬ ((xs.length = 0 ∧ lo ≠ 0) ∨ (0 < xs.length ∧ (xs.getD 0 0 = 0 ∨ xs.getD (xs.length - 1) 0 = 0)))) : LP.pfl lo xs = if xs.all LP.okC then 0 else 1 := by unfold LP.pfl; rw [if_neg h, if_neg h2]
theorem okC_take {w : List Int} {k : Nat} (hk : k < w.length) : (w.take (k + 1)).all LP.okC = ((w.take k).all LP.okC && LP.okC (w.getD k 0)) := by
  rw [List.take_succ_eq_append_getElem hk, List.all_append]
  simp [List.getD, List.getElem?_eq_getElem hk]

/-- What Fits makes of a polynomial. -/
def LP.fitL (lo : Int) (cs : List Int) : PR := if pfl lo cs = 0 then (0, lo, cs) else (2, 0, [])
end Go.Proofs.Ytihpmdfeonphpaa
/- timbref1.SquareFault. -/
namespace Go.Proofs.Ytihpmdfeonphpaa
set_option linter.unusedVariables false
set_option linter.unusedSimpArgs false
open Go.RowKit

/-- What is wrong with an element. -/
def polyE (p : Po) : Int := if LP.pfl p.1 p.2 ≠ 0 then LP.pfl p.1 p.2 else if 20 < p.2.length ∨ 20 < p.1 ∨ p.1 < -20 then 2 else if p.2.any (fun c => decide (1000 < c) || decide (c < -1000)) then 1 else 0
def rowE (n : Nat) : List Po → Int
  | [] => 0
  | p :: r => if polyE p ≠ 0 then polyE p else rowE n r
def rowsE (n : Nat) : List (List Po) → Int
  | [] => 0
  | r :: m => if r.length ≠ n then 3 else if rowE n r ≠ 0 then rowE n r else rowsE n m
def sqE (m : List (List Po)) : Int := if 4 < m.length then 2 else rowsE m.length m
theorem rowE_drop {n k : Nat} {ps : List Po} (h : k < ps.length) : rowE n (ps.drop k) = if polyE (ps.getD k (0, [])) ≠ 0 then polyE (ps.getD k (0, [])) else rowE n (ps.drop (k + 1)) := by
  rw [List.drop_eq_getElem_cons h, show ps.getD k (0, []) = ps[k] by simp [List.getD, List.getElem?_eq_getElem h]]
  rfl
theorem rowsE_drop {n k : Nat} {pss : List (List Po)} (h : k < pss.length) : rowsE n (pss.drop k) = if (pss.getD k []).length ≠ n then 3 else if rowE n (pss.getD k []) ≠ 0 then rowE n (pss.getD k []) else rowsE n (pss.drop (k + 1)) := by
  rw [List.drop_eq_getElem_cons h, show pss.getD k [] = pss[k] by simp [List.getD, List.getElem?_eq_getElem h]]
  rfl

end Go.Proofs.Ytihpmdfeonphpaa
/- What package polymatrix's functions are to answer; determinants of polynomials. -/
namespace Go.Proofs.Ytihpmdfeonphpaa
set_option linter.unusedVariables false
set_option linter.unusedSimpArgs false
open Go.RowKit

/-- The entries as polynomials. -/
def mP (pss : List (List Po)) : Mtx LP := fun i j => LP.of ((pss.getD i []).getD j (0, [])).1 ((pss.getD i []).getD j (0, [])).2
noncomputable def detPR (pss : List (List Po)) : LP.PR := if sqE pss = 0 then LP.fit (detR pss.length (mP pss)) else (sqE pss, 0, [])
/-- Package polymatrix, as the document asks. -/
structure PmC : Prop where

theorem polyE_zero {p : Po} (h : polyE p = 0) : LP.pfl p.1 p.2 = 0 ∧ p.2.length ≤ 20 ∧ -20 ≤ p.1 ∧ p.1 ≤ 20 ∧ ∀ c ∈ p.2, c.natAbs ≤ 1000 := by
  unfold polyE at h
  by_cases h1 : LP.pfl p.1 p.2 = 0
  · rw [if_neg (by simp [h1])] at h
    by_cases h2 : 20 < p.2.length ∨ 20 < p.1 ∨ p.1 < -20
    · rw [if_pos h2] at h; omega
    · rw [if_neg h2] at h
      by_cases h3 : p.2.any (fun c => decide (1000 < c) || decide (c < -1000)) = true
      · rw [if_pos h3] at h; omega
      · refine ⟨h1, by omega, by omega, by omega, fun c hc => ?_⟩
        rw [Bool.not_eq_true, List.any_eq_false] at h3
        have h4 := h3 c hc
        simp at h4
        omega
  · rw [if_pos h1] at h; exact absurd h h1
theorem rowE_zero {n : Nat} : ∀ {ps : List Po}, rowE n ps = 0 → ∀ p ∈ ps, polyE p = 0
  | [], _, p, hp => by simp at hp
  | q :: r, h, p, hp => by
    unfold rowE at h
    by_cases h1 : polyE q = 0
    · rw [if_neg (by simp [h1])] at h
      rcases List.mem_cons.1 hp with rfl | h2
      · exact h1
      · exact rowE_zero h p h2
    · rw [if_pos h1] at h; exact absurd h h1
theorem rowsE_zero {n : Nat} : ∀ {pss : List (List Po)}, rowsE n pss = 0 → ∀ r ∈ pss, r.length = n ∧ ∀ p ∈ r, polyE p = 0
  | [], _, p, hp => by simp at hp
  | q :: r, h, p, hp => by
    unfold rowsE at h
    by_cases h1 : q.length = n
    · rw [if_neg (by simp [h1])] at h
      by_cases h2 : rowE n q = 0
      · rw [if_neg (by simp [h2])] at h
        rcases List.mem_cons.1 hp with rfl | h3
        · exact ⟨h1, rowE_zero h2⟩
        · exact rowsE_zero h p h3
      · rw [if_pos h2] at h; exact absurd h h2
    · rw [if_pos h1] at h; omega
theorem sqE_zero {pss : List (List Po)} (h : sqE pss = 0) : pss.length ≤ 4 ∧ ∀ r ∈ pss, r.length = pss.length ∧ ∀ p ∈ r, polyE p = 0 := by
  unfold sqE at h
  by_cases h1 : 4 < pss.length
  · rw [if_pos h1] at h; omega
  · rw [if_neg h1] at h
    exact ⟨by omega, rowsE_zero h⟩
theorem rowE_all {n : Nat} : ∀ {ps : List Po}, (∀ p ∈ ps, polyE p = 0) → rowE n ps = 0
  | [], _ => rfl
  | q :: r, h => by
    unfold rowE
    rw [if_neg (by simp [h q (by simp)])]
    exact rowE_all fun p hp => h p (by simp [hp])
theorem rowsE_all {n : Nat} : ∀ {pss : List (List Po)}, (∀ r ∈ pss, r.length = n ∧ ∀ p ∈ r, polyE p = 0) → rowsE n pss = 0
  | [], _ => rfl
  | q :: r, h => by
    unfold rowsE
    rw [if_neg (by simp [(h q (by simp)).1]), if_neg (by simp [rowE_all (n := n) (h q (by simp)).2])]
    exact rowsE_all fun p hp => h p (by simp [hp])
theorem sqE_all {pss : List (List Po)} (h4 : pss.length ≤ 4) (h : ∀ r ∈ pss, r.length = pss.length ∧ ∀ p ∈ r, polyE p = 0) : sqE pss = 0 := by
  unfold sqE
  rw [if_neg (by omega)]
  exact rowsE_all h
theorem getD_of_lt {α : Type} {l : List α} {i : Nat} (d : α) (h : i < l.length) : l.getD i d = l[i] := by simp [List.getD, List.getElem?_eq_getElem h]
theorem mP_entry {pss : List (List Po)} (h : sqE pss = 0) {i j : Nat} (hi : i < pss.length) (hj : j < pss.length) : ∃ p : Po, (pss.getD i []).getD j (0, []) = p ∧ polyE p = 0 := by
  obtain ⟨h4, hr⟩ := sqE_zero h
  have h1 := hr pss[i] (List.getElem_mem _)
  rw [getD_of_lt [] hi, getD_of_lt (0, []) (by rw [h1.1]; exact hj)]
  exact ⟨_, rfl, h1.2 _ (List.getElem_mem _)⟩
theorem poly_n1 {p : Po} (h : polyE p = 0) : LP.N1 (LP.of p.1 p.2) 40 20000 ∧ ∀ k, (LP.co (LP.of p.1 p.2) k).natAbs ≤ 1000 := by
  obtain ⟨_, h1, h2, h3, h4⟩ := polyE_zero h
  refine ⟨(LP.N1.of_ p.2 p.1 40 1000 (by omega) (by omega) h4).mono (Nat.le_refl _) (by omega), LP.co_of_le h4⟩
theorem fitL_fit (x : LP) : (if LP.pfl (LP.canon x).1 (LP.canon x).2 = 0 then (0, (LP.canon x).1, (LP.canon x).2) else (2, 0, [])) = LP.fit x := rfl
/-- Two by two. -/
theorem detR_two {R : Type} [CR R] (M : Mtx R) : detR 2 M = M 0 0 * M 1 1 + -(M 0 1 * M 1 0) := by
  have h1 : ∀ N : Mtx R, detR 1 N = N 0 0 := fun N => by
    show 0 + CR.sgR R 0 * (N 0 0 * 1) = N 0 0
    rw [CR.zero_add, CR.mul_one, CR.sgR_zero, CR.one_mul]
  show 0 + CR.sgR R 0 * (M 0 0 * detR 1 _) + CR.sgR R 1 * (M 0 1 * detR 1 _) = _
  rw [h1, h1, CR.zero_add, CR.sgR_zero, CR.one_mul, show CR.sgR R 1 = -1 from rfl, CR.neg_mul, CR.one_mul]
  rfl
theorem det_t11t : detPR [[(1, [1]), (0, [1])], [(0, [1]), (1, [1])]] = (0, 0, [-1, 0, 1]) := by
  have h : LP.canon (detR 2 (mP [[(1, [1]), (0, [1])], [(0, [1]), (1, [1])]])) = (0, [-1, 0, 1]) := by
    refine LP.canon_eq (.inr ⟨by decide, by decide, by decide⟩) ?_
    rw [detR_two]
    show LP.of 0 [-1, 0, 1] = LP.of 1 [1] * LP.of 1 [1] + -(LP.of 0 [1] * LP.of 0 [1])
    rw [LP.of_one, LP.of_one, LP.term_mul, LP.term_mul]
    refine LP.ext fun k => ?_
    show LP.co (LP.term 0 (-1) + (LP.term 1 0 + (LP.term 2 1 + 0))) k = _
    rw [LP.co_add, LP.co_add, LP.co_add, LP.co_add, LP.co_neg, LP.co_term, LP.co_term, LP.co_term, LP.co_term, LP.co_term, LP.co_zero]
    split <;> split <;> split <;> omega
  unfold detPR
  rw [show sqE [[(1, [1]), (0, [1])], [(0, [1]), (1, [1])]] = 0 from by decide, if_pos rfl]
  show LP.fit (detR 2 _) = _
  unfold LP.fit
  rw [h]
  decide
end Go.Proofs.Ytihpmdfeonphpaa
