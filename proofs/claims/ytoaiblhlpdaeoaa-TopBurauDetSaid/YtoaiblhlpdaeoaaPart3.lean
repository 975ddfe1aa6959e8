/- Several texts in one. -/
import Derived.Test.YtoaiblhlpdaeoaaPart1
import Derived.Test.YtoaiblhlpdaeoaaPart2
import Derived.Test.YtoaiblhlpdaeoaaBase1
import Derived.Deep.DeepCutAuto
import Derived.Test.YtoaiblhlpdaeoaaProg
import Derived.WalkKit
import Derived.Deep.QuietTactic
import Derived.BigQuiet
import Derived.WalkSpells
import Derived.WalkLawsBesides
import Derived.Outline
import Derived.Maps.OwnOps
import Derived.Maps.Views
import Derived.BigRegion
/- What package freegroup's functions are to answer (words alone), and what follows for the facts free and reduced that the laws begin with. -/
namespace Go.Proofs.Ytoaiblhlpdaeoaa
set_option linter.unusedVariables false
set_option linter.unusedSimpArgs false
open Go.RowKit

/-- A slice and an error. -/
def GivesLE (w : World) (err : Int) (xs : List Int) (e : Ending) (w' : World) : Prop :=
  ∃ A n c, e = .returned (.tuple #[.slice A n c, .int .i64 err]) ∧ SL w' A n c xs ∧ Below w.heap.size w w'

/-- The same, the slice in memory that was not there before. -/
def GivesLEn (w : World) (err : Int) (xs : List Int) (e : Ending) (w' : World) : Prop :=
  ∃ A n c, e = .returned (.tuple #[.slice A n c, .int .i64 err]) ∧ SL w' A n c xs ∧ (0 < n → ∀ ad, A = some ad → w.heap.size ≤ ad.block) ∧ Below w.heap.size w w'
theorem GivesLEn.le {w : World} {err : Int} {xs : List Int} {e : Ending} {w' : World} (h : GivesLEn w err xs e w') : GivesLE w err xs e w' := by
  obtain ⟨A, n, c, h1, h2, _, h3⟩ := h
  exact ⟨A, n, c, h1, h2, h3⟩

end Go.Proofs.Ytoaiblhlpdaeoaa
/- Images under short braid words are short; what package artin's functions are to answer. -/
namespace Go.Proofs.Ytoaiblhlpdaeoaa
set_option linter.unusedVariables false
set_option linter.unusedSimpArgs false
open Go.RowKit

theorem artL_len3 (y z : Int) : (artL y z).length ≤ 3 := by
  unfold artL artV
  (repeat' split) <;> simp [invw]
theorem artW_len3 (y : Int) : ∀ u : List Int, (artW y u).length ≤ 3 * u.length
  | [] => Nat.le_refl _
  | z :: u => by
    rw [artW_cons, List.length_append, List.length_cons]
    have := artW_len3 y u
    have := artL_len3 y z
    omega
def sixL : List Int := [1, -1, 2, -2, 3, -3, 4, -4, 5, -5]
theorem sixL_mem {y : Int} (h0 : y ≠ 0) (h : y.natAbs < 6) : y ∈ sixL := by
  have : y = 1 ∨ y = -1 ∨ y = 2 ∨ y = -2 ∨ y = 3 ∨ y = -3 ∨ y = 4 ∨ y = -4 ∨ y = 5 ∨ y = -5 := by omega
  rcases this with rfl | rfl | rfl | rfl | rfl | rfl | rfl | rfl | rfl | rfl <;> decide
def chkA : Nat → List Int → Bool
  | 0, u => decide (u.length ≤ 54)
  | d + 1, u => decide (u.length * 3 ^ (d + 1) ≤ 54) || (decide (u.length ≤ 54) && sixL.all fun y => chkA d (nf (artW y u)))
theorem artF_len : ∀ (w u : List Int), (artF w u).length ≤ u.length * 3 ^ w.length
  | [], u => by show u.length ≤ _; simp
  | y :: w, u => by
    show (artF w (nf (artW y u))).length ≤ _
    have h1 := artF_len w (nf (artW y u))
    have h2 := nf_len_le (artW y u)
    have h3 := artW_len3 y u
    have h4 : (nf (artW y u)).length * 3 ^ w.length ≤ (3 * u.length) * 3 ^ w.length := Nat.mul_le_mul_right _ (by omega)
    rw [List.length_cons, Nat.pow_succ, Nat.mul_comm (3 ^ w.length), ← Nat.mul_assoc, Nat.mul_comm u.length]
    omega
theorem chkA_spec : ∀ (d : Nat) (u : List Int), chkA d u = true → ∀ w : List Int, w.length ≤ d → (∀ y ∈ w, y ≠ 0 ∧ y.natAbs < 6) → (artF w u).length ≤ 54
  | 0, u, h, w, hw, _ => by
    rw [List.eq_nil_of_length_eq_zero (by omega : w.length = 0)]
    show u.length ≤ 54
    simpa [chkA] using h
  | d + 1, u, h, w, hw, hl => by
    unfold chkA at h
    rw [Bool.or_eq_true] at h
    rcases h with h | h
    · have h := of_decide_eq_true h
      have h1 := artF_len w u
      have h2 : 3 ^ w.length ≤ 3 ^ (d + 1) := Nat.pow_le_pow_right (by omega) hw
      have h3 := Nat.mul_le_mul_left u.length h2
      omega
    · rw [Bool.and_eq_true] at h
      cases w with
      | nil => exact of_decide_eq_true h.1
      | cons y w =>
        have h2 := List.all_eq_true.1 h.2 y (sixL_mem (hl y (by simp)).1 (hl y (by simp)).2)
        exact chkA_spec d _ h2 w (by simpa using hw) fun z hz => hl z (by simp [hz])
theorem chkA_all : ([1, 2, 3, 4, 5, 6] : List Int).all (fun z => chkA 5 [z]) = true := by decide +kernel
theorem artW_far {y : Int} {k : Nat} (h : y.natAbs + 1 < k) : artW y [(k : Int)] = [(k : Int)] := by
  rw [artW_one, artL_o (by omega) (by omega)]
theorem artC_far {k : Nat} : ∀ {w : List Int}, (∀ y ∈ w, y.natAbs + 1 < k) → artC w [(k : Int)] = [(k : Int)]
  | [], _ => rfl
  | y :: w, h => by
    rw [artC_cons, artW_far (h y (by simp))]
    exact artC_far fun z hz => h z (by simp [hz])
theorem img5 {w : List Int} (hw : ∀ y ∈ w, y ≠ 0 ∧ y.natAbs < 6) (hl : w.length ≤ 5) {z : Int} (hz : z ≠ 0) : (nf (artC w [z])).length ≤ 54 := by
  have hnz : nz w := fun y hy => (hw y hy).1
  have pos : ∀ k : Nat, 0 < k → (nf (artC w [(k : Int)])).length ≤ 54 := fun k hk => by
    by_cases h6 : k ≤ 6
    · have h1 : chkA 5 [(k : Int)] = true := List.all_eq_true.1 chkA_all _ (by
        have : k = 1 ∨ k = 2 ∨ k = 3 ∨ k = 4 ∨ k = 5 ∨ k = 6 := by omega
        rcases this with rfl | rfl | rfl | rfl | rfl | rfl <;> decide)
      have h2 := chkA_spec 5 _ h1 w hl hw
      have h3 := artF_nf hnz (u := [(k : Int)]) (fun x hx => by simp at hx; omega)
      rw [show nf [(k : Int)] = [(k : Int)] from rfl] at h3
      rw [← h3]
      exact h2
    · rw [artC_far fun y hy => by have := (hw y hy).2; omega]
      exact Nat.le_trans (nf_len_le _) (by simp)
  rcases Int.natAbs_eq z with e | e
  · rw [e]; exact pos _ (by omega)
  · have h1 := artC_invw (w := w) (u := [(z.natAbs : Int)]) hnz (fun x hx => by simp at hx; omega)
    rw [show invw [(z.natAbs : Int)] = [z] by simp [invw]; omega] at h1
    rw [h1, nf_invw, invw_length]
    exact pos _ (by omega)
theorem imgs5 {w : List Int} (hw : ∀ y ∈ w, y ≠ 0 ∧ y.natAbs < 6) (hl : w.length ≤ 5) : ∀ {u : List Int}, nz u → (nf (artC w u)).length ≤ 54 * u.length
  | [], _ => by rw [artC_nil]; exact Nat.le_refl _
  | z :: u, h => by
    have e : artC w (z :: u) = artC w [z] ++ artC w u := artC_append w [z] u
    have h1 := img5 hw hl (z := z) (h z (by simp))
    have h2 := imgs5 hw hl (u := u) fun x hx => h x (by simp [hx])
    rw [e, ← nf_left, ← nf_right]
    have h3 := nf_len_le (nf (artC w [z]) ++ nf (artC w u))
    rw [List.length_append] at h3
    rw [List.length_cons]
    omega
/-- Words of at most 10 letters. -/
theorem img10 {w : List Int} (hw : ∀ y ∈ w, y ≠ 0 ∧ y.natAbs < 6) (hl : w.length ≤ 10) {z : Int} (hz : z ≠ 0) : (nf (artC w [z])).length ≤ 3000 := by
  have e : w = w.take 5 ++ w.drop 5 := (List.take_append_drop 5 w).symm
  have m1 : ∀ y ∈ w.take 5, y ≠ 0 ∧ y.natAbs < 6 := fun y hy => hw y (List.mem_of_mem_take hy)
  have m2 : ∀ y ∈ w.drop 5, y ≠ 0 ∧ y.natAbs < 6 := fun y hy => hw y (List.mem_of_mem_drop hy)
  have n1 : nz (w.take 5) := fun y hy => (m1 y hy).1
  have n2 : nz (w.drop 5) := fun y hy => (m2 y hy).1
  have hz1 : nz [z] := fun x hx => by simp at hx; omega
  rw [e, artC_app]
  have h1 := img5 m1 (by simp; omega) hz
  have h2 := imgs5 m2 (by simp; omega) (u := nf (artC (w.take 5) [z])) (artC_nz n1 hz1).nf
  rw [artC_congr n2 (artC_nz n1 hz1) (artC_nz n1 hz1).nf (nf_nf _).symm]
  omega

/-- The images. -/
def imgs (n : Nat) (w : List Int) : List (List Int) := (List.range n).map fun (s : Nat) => nf (artC w [((s : Nat) : Int) + 1])
/-- Is an image of the word, or of what remains of it, too long? -/
def longA (n : Nat) (w : List Int) : Bool := (List.range (w.length + 1)).any fun k => (imgs n (w.drop k)).any fun u => decide (3000 < u.length)
def artE (n : Int) (w : List Int) : Int := if bfault n w ≠ 0 then bfault n w else if longA n.toNat w then 2 else 0
def artI (n : Int) (w : List Int) : List (List Int) := if artE n w = 0 then imgs n.toNat w else []
/-- All that is wrong with a, then with b (as the document says). -/
def eqE (n : Int) (a b : List Int) : Int := if artE n a ≠ 0 then artE n a else artE n b
def eqA (n : Int) (a b : List Int) : Bool := decide (eqE n a b = 0) && decide (imgs n.toNat a = imgs n.toNat b)
theorem okB_nz {n : Nat} {w : List Int} (h : okB n w) : nz w := fun x hx => by have := h x hx; omega
/-- Lists of words and an error. -/
def GivesLLE (w : World) (err : Int) (xss : List (List Int)) (e : Ending) (w' : World) : Prop :=
  ∃ A n c, e = .returned (.tuple #[.slice A n c, .int .i64 err]) ∧ SLL w' A n c xss ∧ Below w.heap.size w w'
/-- Package artin, as the document asks. -/
structure ArtinC : Prop where
  images : ∀ (m : Int) (A : Option Addr) (n c : Nat) (xs : List Int) (w : World), SL w A n c xs → (Lit.int .i64 m).wf = true → Calls Try.prog 33 #[.int .i64 m, .slice A n c] w (GivesLLE w (artE m xs) (artI m xs)) -- 33
  equal : ∀ (m : Int) (A : Option Addr) (n c : Nat) (xs : List Int) (B : Option Addr) (k d : Nat) (ys : List Int) (w : World), SL w A n c xs → SL w B k d ys → (Lit.int .i64 m).wf = true → Calls Try.prog 77 #[.int .i64 m, .slice A n c, .slice B k d] w fun e w' => e = .returned (.tuple #[.bool (eqA m xs ys), .int .i64 (eqE m xs ys)]) ∧ Below w.heap.size w w' -- 77
end Go.Proofs.Ytoaiblhlpdaeoaa
/- How long the images under words of permutation braids can be. -/
namespace Go.Proofs.Ytoaiblhlpdaeoaa
set_option linter.unusedVariables false
set_option linter.unusedSimpArgs false
open Gar

/-- Images of letters under w are no longer than B. -/
def LB (w : List Int) (B : Nat) : Prop := ∀ z : Int, z ≠ 0 → (nf (artC w [z])).length ≤ B
theorem LB.all {w : List Int} {B : Nat} (h : LB w B) : ∀ {u : List Int}, nz u → (nf (artC w u)).length ≤ B * u.length
  | [], _ => by rw [artC_nil]; exact Nat.zero_le _
  | z :: u, hu => by
    have e : artC w (z :: u) = artC w [z] ++ artC w u := artC_append w [z] u
    have h1 := h z (hu z (by simp))
    have h2 := h.all (u := u) fun x hx => hu x (by simp [hx])
    rw [e, ← nf_left, ← nf_right]
    have h3 := nf_len_le (nf (artC w [z]) ++ nf (artC w u))
    rw [List.length_append] at h3
    rw [List.length_cons, Nat.mul_succ]
    omega
theorem LB.mul {u v : List Int} {B C : Nat} (hu : nz u) (hv : nz v) (h : LB u B) (k : LB v C) : LB (u ++ v) (C * B) := fun z hz => by
  have hz1 : nz [z] := fun x hx => by simp at hx; omega
  rw [artC_app]
  have h1 := h z hz
  have h2 := k.all (u := nf (artC u [z])) (artC_nz hu hz1).nf
  rw [artC_congr hv (artC_nz hu hz1) (artC_nz hu hz1).nf (nf_nf _).symm]
  exact Nat.le_trans h2 (Nat.mul_le_mul_left _ h1)
theorem LB.rel {a b : List Int} {B : Nat} (h : LB a B) (e : RelA a b) : LB b B := fun z hz => by
  rw [← e [z] (fun x hx => by simp at hx; omega)]
  exact h z hz
theorem LB.mono {a : List Int} {B C : Nat} (h : LB a B) (k : B ≤ C) : LB a C := fun z hz => Nat.le_trans (h z hz) k
theorem LB.nil_ : LB [] 1 := fun z hz => Nat.le_trans (nf_len_le _) (by show [z].length ≤ 1; simp)
theorem LB.short {w : List Int} (hw : ∀ y ∈ w, y ≠ 0 ∧ y.natAbs < 6) (hl : w.length ≤ 10) : LB w 3000 := fun z hz => img10 hw hl hz
/-- The word of a permutation. -/
def wrd (p : List Nat) : List Int := (spl (p.length * p.length) p).map up
def halfW (n : Nat) : List Int := wrd (fullL n)
end Go.Proofs.Ytoaiblhlpdaeoaa
/- Words of normal forms: what they are worth, how long the images under their beginnings can be. -/
namespace Go.Proofs.Ytoaiblhlpdaeoaa
set_option linter.unusedVariables false
set_option linter.unusedSimpArgs false
open Gar

theorem wrd_ok {n : Nat} {p : List Nat} (hp : isP p) (hl : p.length = n) : ∀ i ∈ spl (p.length * p.length) p, i + 1 < n := fun i hi => (elt_spec hp hl).1.1 i hi
theorem map_up_ok {n : Nat} {u : List Nat} (h : ∀ i ∈ u, i + 1 < n) : okB n (u.map up) := fun x hx => by
  obtain ⟨i, hi, rfl⟩ := List.mem_map.1 hx
  have := h i hi
  unfold up
  omega
theorem okB_okl {n : Nat} {w : List Int} (h : okB n w) : ∀ x ∈ w, okl n x := fun x hx => h x hx
theorem okB_wrd {n : Nat} {p : List Nat} (hp : isP p) (hl : p.length = n) : okB n (wrd p) := map_up_ok (wrd_ok hp hl)
def facW (l : List (List Nat)) : List Int := l.flatMap wrd
def PL (n : Nat) (l : List (List Nat)) : Prop := ∀ p ∈ l, isP p ∧ p.length = n
/-- The half twist. -/
theorem full_isP (n : Nat) : isP (fullL n) ∧ (fullL n).length = n := by
  refine ⟨isP_of (fun j hj => ?_) (fun i j hi hj e => ?_), by simp [fullL]⟩
  · rw [show (fullL n).length = n by simp [fullL]] at hj ⊢
    rw [fullL_getD hj]
    omega
  · rw [show (fullL n).length = n by simp [fullL]] at hi hj
    rw [fullL_getD hi, fullL_getD hj] at e
    omega
theorem okB_half (n : Nat) : okB n (halfW n) := okB_wrd (full_isP n).1 (full_isP n).2
/-- The word of a power of the half twist. -/
def powW (n : Nat) (k : Int) : List Int := rep (if k < 0 then invw (halfW n) else halfW n) k.natAbs
/-- The word of a normal form. -/
def wriW (n : Nat) (k : Int) (l : List (List Nat)) : List Int := powW n k ++ facW l
end Go.Proofs.Ytoaiblhlpdaeoaa
/- perm.Check. -/
namespace Go.Proofs.Ytoaiblhlpdaeoaa
set_option linter.unusedVariables false
set_option linter.unusedSimpArgs false
open Go.RowKit

/-- The array 'seen': which of 0 to 8 lie in xs. -/
def seenA (xs : List Int) : Array Value := ((List.range 9).map fun j : Nat => Value.bool (decide ((j : Int) ∈ xs))).toArray
theorem seenA_get (xs : List Int) (j : Nat) (hj : j < 9) : (seenA xs)[j]? = some (.bool (decide ((j : Int) ∈ xs))) := by
  simp [seenA, hj]
theorem seenA_set (xs : List Int) (j : Nat) : (seenA xs).setIfInBounds j (.bool true) = seenA (xs ++ [(j : Int)]) := by
  apply Array.ext_getElem?
  intro i
  by_cases hi : i < 9
  · rw [seenA_get _ i hi, Array.getElem?_setIfInBounds]
    by_cases hij : j = i
    · subst hij
      have : j < (seenA xs).size := by simp [seenA]; omega
      simp [this]
    · rw [if_neg hij, seenA_get _ i hi]
      have : ¬ ((i : Int) = (j : Int)) := by omega
      simp [this]
  · rw [Array.getElem?_eq_none (by simp [seenA]; omega), Array.getElem?_eq_none (by simp [seenA]; omega)]

theorem pf_big {xs : List Int} (h : 9 < xs.length) : pf xs = 2 := by unfold pf; rw [if_pos h]
theorem pf_small {xs : List Int} (h : xs.length ≤ 9) : pf xs = pfGo xs.length [] xs := by unfold pf; rw [if_neg (by omega)]
theorem take_snoc (xs : List Int) (k : Nat) (h : k < xs.length) : xs.take (k + 1) = xs.take k ++ [xs.getD k 0] := by
  rw [List.take_succ_eq_append_getElem h]
  simp [List.getD, List.getElem?_eq_getElem h]

set_option maxHeartbeats 1000000 in
theorem check_any (A : Option Addr) (n c : Nat) (xs : List Int) (w : World) (ha : IL w A n xs) :
    Calls Try.prog 63 #[.slice A n c] w fun e w' => e = .returned (.int .i64 (pf xs)) ∧ Below w.heap.size w w' := by
  have hna := ha.small
  have HL := hide ha.len
  by_cases h9 : 9 < n
  · have HE := hide (pf_big (xs := xs) (by have := HL.out; omega))
    clear ha
    go_enter Try.func63, Try.ntmps63
    go_wp2
    go_ret
    rw [HE.out]
    exact ⟨rfl, Below.refl _ _⟩
  · go_enter Try.func63, Try.ntmps63
    go_wp2
    go_loopw [11] (fun i wr => ∃ k : Nat, k ≤ n ∧ i = .int .i64 k ∧ Hid (pf xs = pfGo xs.length (xs.take k) (xs.drop k)) ∧ Blk wr w.heap.size 104 (seenA (xs.take k)) ∧ Below w.heap.size w wr) (fun i _ => n - (intOf i).toNat)
    case atStart => exact ⟨0, Nat.zero_le _, rfl, pf_small (by have := HL.out; omega), Blk.new _ _ _, (Below.refl _ _).alloc (Nat.le_refl _) _⟩
    case round =>
      obtain ⟨k, hk, rfl, hpf, hblk, hnx⟩ := hrel
      have ha' := ha.below hnx
      by_cases hlt : k < n
      · obtain ⟨ad, rfl, hca⟩ := ha'.at_ hlt
        have HT := hide (take_snoc xs k (by have := HL.out; omega))
        have HP := hide (pf_step (xs := xs) (k := k) (by have := HL.out; omega))
        clear ha ha'
        generalize xs.getD k 0 = x at *
        by_cases h1 : x < 0
        · have HE : Hid (pf xs = 1) := by rw [hpf.out, HP.out, if_pos (.inl h1)]; exact rfl
          go_wp2
          go_ret
          rw [HE.out]
          exact ⟨rfl, hnx⟩
        · by_cases h2 : (n : Int) ≤ x
          · have HE : Hid (pf xs = 1) := by rw [hpf.out, HP.out, if_pos (.inr (by rw [HL.out]; exact h2))]; exact rfl
            go_wp2
            go_ret
            rw [HE.out]
            exact ⟨rfl, hnx⟩
          · obtain ⟨u, rfl⟩ : ∃ u : Nat, x = (u : Int) := ⟨x.toNat, by omega⟩
            have hu9 : u < 9 := by omega
            have hun : u < n := by omega
            have hcell := (hblk.cell u).trans (seenA_get _ u hu9)
            have hfr := hblk.frozen u
            by_cases h3 : (u : Int) ∈ xs.take k
            · have HE : Hid (pf xs = 5) := by rw [hpf.out, HP.out, if_neg (by rw [HL.out]; omega), if_pos h3]; exact rfl
              rw [decide_eq_true h3] at hcell
              clear h3
              go_wp2
              go_ret
              rw [HE.out]
              exact ⟨rfl, hnx⟩
            · have HE : Hid (pf xs = pfGo xs.length (xs.take (k + 1)) (xs.drop (k + 1))) := by rw [hpf.out, HP.out, if_neg (by rw [HL.out]; omega), if_neg h3]; exact rfl
              rw [decide_eq_false h3] at hcell
              clear h3
              go_wp2
              go_roundw
              case rel => exact ⟨k + 1, by omega, by go_num, HE, by rw [HT.out, ← seenA_set]; exact hblk.set_ _ _, hnx.setCell (Nat.le_refl _) _⟩
              case measure => simp [intOf]; omega
      · have HE : Hid (pf xs = 0) := by rw [hpf.out, pf_end xs _ k (by rw [HL.out]; omega)]; exact rfl
        go_wp2
        go_ret
        rw [HE.out]
        exact ⟨rfl, hnx⟩
end Go.Proofs.Ytoaiblhlpdaeoaa
/- timbref1.PermFault: a map of booleans. -/
namespace Go.Proofs.Ytoaiblhlpdaeoaa
set_option linter.unusedVariables false
set_option linter.unusedSimpArgs false
open Go.RowKit Go.Maps

theorem key_is (x : Int) : WideAt.IsKeyLit (.int .i64 x) := by
  simp [WideAt.IsKeyLit]

/-- The map 'seen': true for what lies in xs. -/
structure SeenM (w : World) (b n : Nat) (xs : List Int) : Prop where
  own : ∃ D : DataW Unit, w.ownsMap Try.prog 3 (plainElem Try.prog 4) b n D ∧ IsMap D ∧ ∀ x : Int, D.atKey (.int .i64 x) (.lit (.bool false)) = .lit (.bool (decide (x ∈ xs)))
theorem SeenM.made (w : World) : SeenM (w.alloc (.map #[] 0)) w.heap.size 0 [] := ⟨⟨.map [], World.ownsMap_made _ _ _ _, ⟨[], rfl⟩, fun x => by simp; rfl⟩⟩
theorem SeenM.step {D : DataW Unit} {xs : List Int} (hD : IsMap D) (h : ∀ x : Int, D.atKey (.int .i64 x) (.lit (.bool false)) = .lit (.bool (decide (x ∈ xs)))) (y : Int) :
    IsMap (D.put (.int .i64 y) (.lit (.bool true))) ∧ ∀ x : Int, (D.put (.int .i64 y) (.lit (.bool true))).atKey (.int .i64 x) (.lit (.bool false)) = .lit (.bool (decide (x ∈ xs ++ [y]))) := by
  refine ⟨?_, fun x => ?_⟩
  · obtain ⟨es, rfl⟩ := hD
    exact ⟨_, rfl⟩
  · by_cases e : x = y
    · subst e
      rw [atKey_put_same hD (key_is x)]
      simp
    · rw [atKey_put_other (by simpa using e), h x]
      simp [e]

end Go.Proofs.Ytoaiblhlpdaeoaa
/- timbref1.FactorsFault. -/
namespace Go.Proofs.Ytoaiblhlpdaeoaa
set_option linter.unusedVariables false
set_option linter.unusedSimpArgs false
open Go.RowKit

def tightI (q p : List Int) : Bool := Gar.tightB (q.map Int.toNat) (p.map Int.toNat) (inv (q.map Int.toNat))
theorem toNat_zs (a : List Nat) : (zs a).map Int.toNat = a := by
  unfold zs
  rw [List.map_map]
  conv => rhs; rw [← List.map_id a]
  rfl
theorem tightI_zs (a b : List Nat) : tightI (zs a) (zs b) = Gar.tightB a b (inv a) := by unfold tightI; rw [toNat_zs, toNat_zs]
def badF (N : Nat) (p : List Int) : Bool := decide (p.length ≠ N) || (eqB p (zs (List.range N)) || eqB p (zs (Gar.fullL N)))
def looseF (prev : Option (List Int)) (p : List Int) : Bool := match prev with
  | none => false
  | some q => !tightI q p
def ffGo (N : Nat) : Option (List Int) → List (List Int) → Int
  | _, [] => 0
  | prev, p :: ps => if pf p ≠ 0 then pf p else if (badF N p || looseF prev p) = true then 3 else ffGo N (some p) ps
def ffE (m : Int) (xss : List (List Int)) : Int := if m < 2 ∨ 6 < m then 1 else if 30 < xss.length then 2 else ffGo m.toNat none xss
def prevF (xss : List (List Int)) (k : Nat) : Option (List Int) := if k = 0 then none else some (xss.getD (k - 1) [])
theorem ffGo_drop {N k : Nat} {xss : List (List Int)} (hk : k < xss.length) : ffGo N (prevF xss k) (xss.drop k) = if pf (xss.getD k []) ≠ 0 then pf (xss.getD k []) else if (badF N (xss.getD k []) || looseF (prevF xss k) (xss.getD k [])) = true then 3 else ffGo N (prevF xss (k + 1)) (xss.drop (k + 1)) := by
  rw [List.drop_eq_getElem_cons hk, show xss.getD k [] = xss[k] by simp [List.getD, hk]]
  unfold prevF
  rw [if_neg (show ¬ k + 1 = 0 by omega), Nat.add_sub_cancel, show xss.getD k [] = xss[k] by simp [List.getD, hk]]
  rfl

end Go.Proofs.Ytoaiblhlpdaeoaa
/- Slices of polynomials, and slices of these (words on memory). -/
namespace Go.Proofs.Ytoaiblhlpdaeoaa
set_option linter.unusedVariables false
set_option linter.unusedSimpArgs false
open Go.RowKit

abbrev Po := Int × List Int
/-- A slice of polynomials that reads as ps. -/
structure SPo (w : World) (A : Option Addr) (n c : Nat) (ps : List Po) : Prop where
  len : ps.length = n
  small : n ≤ 17592186044416
  nil : A = none → n = 0 ∧ c = 0
  cap : n ≤ c
  mem : 0 < n → ∃ ad, A = some ad ∧ ad.block < w.heap.size ∧ ∀ j, j < n → ∃ B m d, w.cell? (ad.add (j * 2)) = some (.int .i64 (ps.getD j (0, [])).1) ∧ w.cell? ⟨(ad.add (j * 2)).block, (ad.add (j * 2)).off + 1, none⟩ = some (.slice B m d) ∧ SL w B m d (ps.getD j (0, [])).2 ∧ (Lit.int .i64 (ps.getD j (0, [])).1).wf = true
theorem SPo.below {w w' : World} {A : Option Addr} {n c : Nat} {ps : List Po} (h : SPo w A n c ps) (hb : Below w.heap.size w w') : SPo w' A n c ps :=
  ⟨h.len, h.small, h.nil, h.cap, fun hn => by
    obtain ⟨ad, e, hl, hc⟩ := h.mem hn
    refine ⟨ad, e, Nat.lt_of_lt_of_le hl hb.size, fun j hj => ?_⟩
    obtain ⟨B, m, d, h1, h2, h3, h4⟩ := hc j hj
    exact ⟨B, m, d, (hb.cell (p := ad.add (j * 2)) (by rw [block_of_add]; exact hl)).trans h1, (hb.cell (p := ⟨(ad.add (j * 2)).block, (ad.add (j * 2)).off + 1, none⟩) (by show (ad.add (j * 2)).block < _; rw [block_of_add]; exact hl)).trans h2, h3.below hb, h4⟩⟩
/-- A slice of slices of polynomials. -/
structure SPP (w : World) (A : Option Addr) (n c : Nat) (pss : List (List Po)) : Prop where
  len : pss.length = n
  small : n ≤ 17592186044416
  nil : A = none → n = 0 ∧ c = 0
  cap : n ≤ c
  mem : 0 < n → ∃ ad, A = some ad ∧ ad.block < w.heap.size ∧ ∀ j, j < n → ∃ B m d, w.cell? (ad.add j) = some (.slice B m d) ∧ SPo w B m d (pss.getD j [])
theorem SPP.below {w w' : World} {A : Option Addr} {n c : Nat} {pss : List (List Po)} (h : SPP w A n c pss) (hb : Below w.heap.size w w') : SPP w' A n c pss :=
  ⟨h.len, h.small, h.nil, h.cap, fun hn => by
    obtain ⟨ad, e, hl, hc⟩ := h.mem hn
    refine ⟨ad, e, Nat.lt_of_lt_of_le hl hb.size, fun j hj => ?_⟩
    obtain ⟨B, m, d, h1, h2⟩ := hc j hj
    exact ⟨B, m, d, (hb.cell (p := ad.add j) (by rw [block_of_add]; exact hl)).trans h1, h2.below hb⟩⟩
theorem SPP.at_ {w : World} {A : Option Addr} {n c k : Nat} {pss : List (List Po)} (h : SPP w A n c pss) (hk : k < n) : ∃ ad B m d, A = some ad ∧ w.cell? (ad.add k) = some (.slice B m d) ∧ SPo w B m d (pss.getD k []) := by
  obtain ⟨ad, e, _, hc⟩ := h.mem (by omega)
  obtain ⟨B, m, d, h1, h2⟩ := hc k hk
  exact ⟨ad, B, m, d, e, h1, h2⟩
theorem SPo.at_ {w : World} {A : Option Addr} {n c k : Nat} {ps : List Po} (h : SPo w A n c ps) (hk : k < n) : ∃ ad B m d, A = some ad ∧ w.cell? (ad.add (k * 2)) = some (.int .i64 (ps.getD k (0, [])).1) ∧ w.cell? ⟨(ad.add (k * 2)).block, (ad.add (k * 2)).off + 1, none⟩ = some (.slice B m d) ∧ SL w B m d (ps.getD k (0, [])).2 ∧ (Lit.int .i64 (ps.getD k (0, [])).1).wf = true := by
  obtain ⟨ad, e, _, hc⟩ := h.mem (by omega)
  obtain ⟨B, m, d, h1, h2, h3, h4⟩ := hc k hk
  exact ⟨ad, B, m, d, e, h1, h2, h3, h4⟩
end Go.Proofs.Ytoaiblhlpdaeoaa
/- timbref1.PolyFault and Fits. -/
namespace Go.Proofs.Ytoaiblhlpdaeoaa
set_option linter.unusedVariables false
set_option linter.unusedSimpArgs false
open Go.RowKit

theorem LP.pfl_big {lo : Int} {xs : List Int} (h : 200 < xs.length ∨ 1000 < lo ∨ lo < -1000) : LP.pfl lo xs = 2 := by unfold LP.pfl; rw [if_pos h]
theorem LP.pfl_bad {lo : Int} {xs : List Int} (h : ¬ (200 < xs.length ∨ 1000 < lo ∨ lo < -1000)) (h2 : (xs.length = 0 ∧ lo ≠ 0) ∨ (0 < xs.length ∧ (xs.getD 0 0 = 0 ∨ xs.getD (xs.length - 1) 0 = 0))) : LP.pfl lo xs = 3 := by unfold LP.pfl; rw [if_neg h, if_pos h2]
theorem LP.pfl_loop {lo : Int} {xs : List Int} (h : ¬ (200 < xs.length ∨ 1000 < lo ∨ lo < -1000)) (h2 : ¬ ((xs.length = 0 ∧ lo ≠ 0) ∨ (0 < xs.length ∧ (xs.getD 0 0 = 0 ∨ xs.getD (xs.length - 1) 0 = 0)))) : LP.pfl lo xs = if xs.all LP.okC then 0 else 1 := by unfold LP.pfl; rw [if_neg h, if_neg h2]
/-- The results of a function that returns a polynomial out of a block and an error. -/
theorem results_pe {fn : Func} {t u : Tmp} {b : Nat} {v0 v1 e : Value} {w : World} (h : fn.results = #[.cell t 54, .tmp u]) (tmps : Array Value) (ht : tmps.getD t undef = .pointer (some ⟨b, 0, none⟩)) (hu : tmps.getD u undef = e) (hb : Blk w b 54 #[v0, v1]) :
    (results fn tmps).run Try.prog w = .ok (.tuple #[.agg #[v0, v1], e]) w := by
  have h0 := hb.cell 0
  have h1 := hb.cell 1
  simp at h0 h1
  have ht2 : tmps[t]?.getD undef = .pointer (some ⟨b, 0, none⟩) := by simpa using ht
  have hu2 : tmps[u]?.getD undef = e := by simpa using hu
  simp [results, h, ht2, hu2, go_sem, h0, h1, Result.andThen]
/-- What Fits makes of a polynomial. -/
def LP.fitL (lo : Int) (cs : List Int) : PR := if pfl lo cs = 0 then (0, lo, cs) else (2, 0, [])
end Go.Proofs.Ytoaiblhlpdaeoaa
/- timbref1.SquareFault. -/
namespace Go.Proofs.Ytoaiblhlpdaeoaa
set_option linter.unusedVariables false
set_option linter.unusedSimpArgs false
open Go.RowKit

/-- What is wrong with an element. -/
def polyE (p : Po) : Int := if LP.pfl p.1 p.2 ≠ 0 then LP.pfl p.1 p.2 else if 20 < p.2.length ∨ 20 < p.1 ∨ p.1 < -20 then 2 else if p.2.any (fun c => decide (1000 < c) || decide (c < -1000)) then 1 else 0
def rowE (n : Nat) : List Po → Int
  | [] => 0
  | p :: r => if polyE p ≠ 0 then polyE p else rowE n r
def rowsE (n : Nat) : List (List Po) → Int
  | [] => 0
  | r :: m => if r.length ≠ n then 3 else if rowE n r ≠ 0 then rowE n r else rowsE n m
def sqE (m : List (List Po)) : Int := if 4 < m.length then 2 else rowsE m.length m
theorem rowE_drop {n k : Nat} {ps : List Po} (h : k < ps.length) : rowE n (ps.drop k) = if polyE (ps.getD k (0, [])) ≠ 0 then polyE (ps.getD k (0, [])) else rowE n (ps.drop (k + 1)) := by
  rw [List.drop_eq_getElem_cons h, show ps.getD k (0, []) = ps[k] by simp [List.getD, List.getElem?_eq_getElem h]]
  rfl
theorem rowsE_drop {n k : Nat} {pss : List (List Po)} (h : k < pss.length) : rowsE n (pss.drop k) = if (pss.getD k []).length ≠ n then 3 else if rowE n (pss.getD k []) ≠ 0 then rowE n (pss.getD k []) else rowsE n (pss.drop (k + 1)) := by
  rw [List.drop_eq_getElem_cons h, show pss.getD k [] = pss[k] by simp [List.getD, List.getElem?_eq_getElem h]]
  rfl

end Go.Proofs.Ytoaiblhlpdaeoaa
/- What package polymatrix's functions are to answer; determinants of polynomials. -/
namespace Go.Proofs.Ytoaiblhlpdaeoaa
set_option linter.unusedVariables false
set_option linter.unusedSimpArgs false
open Go.RowKit

/-- The entries as polynomials. -/
def mP (pss : List (List Po)) : Mtx LP := fun i j => LP.of ((pss.getD i []).getD j (0, [])).1 ((pss.getD i []).getD j (0, [])).2
noncomputable def detPR (pss : List (List Po)) : LP.PR := if sqE pss = 0 then LP.fit (detR pss.length (mP pss)) else (sqE pss, 0, [])
/-- Package polymatrix, as the document asks. -/
structure PmC : Prop where
  check : ∀ (A : Option Addr) (n c : Nat) (pss : List (List Po)) (w : World), SPP w A n c pss → Calls Try.prog 81 #[.slice A n c] w fun e w' => e = .returned (.int .i64 (sqE pss)) ∧ Below w.heap.size w w'
  det : ∀ (A : Option Addr) (n c : Nat) (pss : List (List Po)) (w : World), SPP w A n c pss → Calls Try.prog 38 #[.slice A n c] w (GivesPE w (detPR pss))

theorem polyE_zero {p : Po} (h : polyE p = 0) : LP.pfl p.1 p.2 = 0 ∧ p.2.length ≤ 20 ∧ -20 ≤ p.1 ∧ p.1 ≤ 20 ∧ ∀ c ∈ p.2, c.natAbs ≤ 1000 := by
  unfold polyE at h
  by_cases h1 : LP.pfl p.1 p.2 = 0
  · rw [if_neg (by simp [h1])] at h
    by_cases h2 : 20 < p.2.length ∨ 20 < p.1 ∨ p.1 < -20
    · rw [if_pos h2] at h; omega
    · rw [if_neg h2] at h
      by_cases h3 : p.2.any (fun c => decide (1000 < c) || decide (c < -1000)) = true
      · rw [if_pos h3] at h; omega
      · refine ⟨h1, by omega, by omega, by omega, fun c hc => ?_⟩
        rw [Bool.not_eq_true, List.any_eq_false] at h3
        have h4 := h3 c hc
        simp at h4
        omega
  · rw [if_pos h1] at h; exact absurd h h1
theorem rowE_zero {n : Nat} : ∀ {ps : List Po}, rowE n ps = 0 → ∀ p ∈ ps, polyE p = 0
  | [], _, p, hp => by simp at hp
  | q :: r, h, p, hp => by
    unfold rowE at h
    by_cases h1 : polyE q = 0
    · rw [if_neg (by simp [h1])] at h
      rcases List.mem_cons.1 hp with rfl | h2
      · exact h1
      · exact rowE_zero h p h2
    · rw [if_pos h1] at h; exact absurd h h1
theorem rowsE_zero {n : Nat} : ∀ {pss : List (List Po)}, rowsE n pss = 0 → ∀ r ∈ pss, r.length = n ∧ ∀ p ∈ r, polyE p = 0
  | [], _, p, hp => by simp at hp
  | q :: r, h, p, hp => by
    unfold rowsE at h
    by_cases h1 : q.length = n
    · rw [if_neg (by simp [h1])] at h
      by_cases h2 : rowE n q = 0
      · rw [if_neg (by simp [h2])] at h
        rcases List.mem_cons.1 hp with rfl | h3
        · exact ⟨h1, rowE_zero h2⟩
        · exact rowsE_zero h p h3
      · rw [if_pos h2] at h; exact absurd h h2
    · rw [if_pos h1] at h; omega
theorem sqE_zero {pss : List (List Po)} (h : sqE pss = 0) : pss.length ≤ 4 ∧ ∀ r ∈ pss, r.length = pss.length ∧ ∀ p ∈ r, polyE p = 0 := by
  unfold sqE at h
  by_cases h1 : 4 < pss.length
  · rw [if_pos h1] at h; omega
  · rw [if_neg h1] at h
    exact ⟨by omega, rowsE_zero h⟩
theorem rowE_all {n : Nat} : ∀ {ps : List Po}, (∀ p ∈ ps, polyE p = 0) → rowE n ps = 0
  | [], _ => rfl
  | q :: r, h => by
    unfold rowE
    rw [if_neg (by simp [h q (by simp)])]
    exact rowE_all fun p hp => h p (by simp [hp])
theorem rowsE_all {n : Nat} : ∀ {pss : List (List Po)}, (∀ r ∈ pss, r.length = n ∧ ∀ p ∈ r, polyE p = 0) → rowsE n pss = 0
  | [], _ => rfl
  | q :: r, h => by
    unfold rowsE
    rw [if_neg (by simp [(h q (by simp)).1]), if_neg (by simp [rowE_all (n := n) (h q (by simp)).2])]
    exact rowsE_all fun p hp => h p (by simp [hp])
theorem sqE_all {pss : List (List Po)} (h4 : pss.length ≤ 4) (h : ∀ r ∈ pss, r.length = pss.length ∧ ∀ p ∈ r, polyE p = 0) : sqE pss = 0 := by
  unfold sqE
  rw [if_neg (by omega)]
  exact rowsE_all h
theorem getD_of_lt {α : Type} {l : List α} {i : Nat} (d : α) (h : i < l.length) : l.getD i d = l[i] := by simp [List.getD, List.getElem?_eq_getElem h]
theorem mP_entry {pss : List (List Po)} (h : sqE pss = 0) {i j : Nat} (hi : i < pss.length) (hj : j < pss.length) : ∃ p : Po, (pss.getD i []).getD j (0, []) = p ∧ polyE p = 0 := by
  obtain ⟨h4, hr⟩ := sqE_zero h
  have h1 := hr pss[i] (List.getElem_mem _)
  rw [getD_of_lt [] hi, getD_of_lt (0, []) (by rw [h1.1]; exact hj)]
  exact ⟨_, rfl, h1.2 _ (List.getElem_mem _)⟩
theorem poly_n1 {p : Po} (h : polyE p = 0) : LP.N1 (LP.of p.1 p.2) 40 20000 ∧ ∀ k, (LP.co (LP.of p.1 p.2) k).natAbs ≤ 1000 := by
  obtain ⟨_, h1, h2, h3, h4⟩ := polyE_zero h
  refine ⟨(LP.N1.of_ p.2 p.1 40 1000 (by omega) (by omega) h4).mono (Nat.le_refl _) (by omega), LP.co_of_le h4⟩
end Go.Proofs.Ytoaiblhlpdaeoaa
/- The matrices of timbkeep1.PolyDetRows: entries, determinants of triangular matrices. -/
namespace Go.Proofs.Ytoaiblhlpdaeoaa
set_option linter.unusedVariables false
set_option linter.unusedSimpArgs false

section
open CR
variable {R : Type} [CR R]
end

noncomputable def cP (x : LP) : Po := ((LP.canon x).1, (LP.canon x).2)
theorem of_cP (x : LP) : LP.of (cP x).1 (cP x).2 = x := LP.of_canon x
theorem detPR_rt {pss : List (List Po)} (h : sqE pss = 0) {D : LP} (hd : detR pss.length (mP pss) = D) (hr : LP.Rt D) : detPR pss = (0, (LP.canon D).1, (LP.canon D).2) := by
  unfold detPR
  rw [if_pos h, hd]
  exact LP.fit_ok hr
end Go.Proofs.Ytoaiblhlpdaeoaa
/- What package braid's functions are to answer. -/
namespace Go.Proofs.Ytoaiblhlpdaeoaa
set_option linter.unusedVariables false
set_option linter.unusedSimpArgs false
open Go.RowKit

def permE (n : Int) (w : List Int) : List Int := if bfault n w = 0 then zs (endsL n.toNat w) else []
def expoB (n : Int) (w : List Int) : Int := if bfault n w = 0 then LP.expo w else 0
def invB (n : Int) (w : List Int) : List Int := if bfault n w = 0 then invw w else []
def burE (n : Int) (w : List Int) : Int := if bfault n w = 0 then (if 16 < w.length then 2 else 0) else bfault n w
noncomputable def buL (n : Nat) (w : List Int) : List (List Po) := (List.range n).map fun i => (List.range n).map fun j => cP (bu n w i j)
noncomputable def burL (n : Int) (w : List Int) : List (List Po) := if burE n w = 0 then buL n.toNat w else []
/-- A matrix and an error. -/
def GivesMP (w : World) (err : Int) (pss : List (List Po)) (e : Ending) (w' : World) : Prop :=
  ∃ A n c, e = .returned (.tuple #[.slice A n c, .int .i64 err]) ∧ SPP w' A n c pss ∧ Below w.heap.size w w'
/-- Package braid, as the document asks. -/
structure BraidC : Prop where
  check : ∀ (m : Int) (A : Option Addr) (n c : Nat) (xs : List Int) (w : World), SL w A n c xs → (Lit.int .i64 m).wf = true → Calls Try.prog 48 #[.int .i64 m, .slice A n c] w fun e w' => e = .returned (.int .i64 (bfault m xs)) ∧ Below w.heap.size w w'
  perm : ∀ (m : Int) (A : Option Addr) (n c : Nat) (xs : List Int) (w : World), SL w A n c xs → (Lit.int .i64 m).wf = true → Calls Try.prog 41 #[.int .i64 m, .slice A n c] w (GivesLE w (bfault m xs) (permE m xs))
  expo : ∀ (m : Int) (A : Option Addr) (n c : Nat) (xs : List Int) (w : World), SL w A n c xs → (Lit.int .i64 m).wf = true → Calls Try.prog 39 #[.int .i64 m, .slice A n c] w fun e w' => e = .returned (.tuple #[.int .i64 (expoB m xs), .int .i64 (bfault m xs)]) ∧ Below w.heap.size w w'
  inverse : ∀ (m : Int) (A : Option Addr) (n c : Nat) (xs : List Int) (w : World), SL w A n c xs → (Lit.int .i64 m).wf = true → Calls Try.prog 32 #[.int .i64 m, .slice A n c] w (GivesLE w (bfault m xs) (invB m xs))
  burau : ∀ (m : Int) (A : Option Addr) (n c : Nat) (xs : List Int) (w : World), SL w A n c xs → (Lit.int .i64 m).wf = true → Calls Try.prog 34 #[.int .i64 m, .slice A n c] w (GivesMP w (burE m xs) (burL m xs))

end Go.Proofs.Ytoaiblhlpdaeoaa
/- What package garside's functions are to answer. -/
namespace Go.Proofs.Ytoaiblhlpdaeoaa
set_option linter.unusedVariables false
set_option linter.unusedSimpArgs false
open Go.RowKit Gar

/-- The normal form of a word. -/
structure NFw (n : Nat) (xs : List Int) (k : Int) (l : List (List Nat)) : Prop where
  pl : PL n l
  nf : NF n (l.map elt)
  val : nfv n k (l.map elt) = gp n xs
  one : n = 1 → k = 0
theorem NFw.unique {n : Nat} (hn : 2 ≤ n) {xs ys : List Int} {k j : Int} {l m : List (List Nat)} (h : NFw n xs k l) (g : NFw n ys j m) (e : gp n xs = gp n ys) : k = j ∧ l = m := by
  obtain ⟨h1, h2⟩ := nf_unique hn h.nf g.nf (by rw [h.val, g.val, e])
  refine ⟨h1, ?_⟩
  have key : ∀ (l m : List (List Nat)), PL n l → PL n m → l.map elt = m.map elt → l = m := by
    intro l
    induction l with
    | nil => intro m _ _ e; cases m with
      | nil => rfl
      | cons p m => simp at e
    | cons p l ih =>
      intro m hl hm e
      cases m with
      | nil => simp at e
      | cons q m =>
        simp only [List.map_cons, List.cons.injEq] at e
        obtain ⟨p1, p2⟩ := hl p (by simp)
        obtain ⟨q1, q2⟩ := hm q (by simp)
        rw [elt_inj p1 q1 p2 q2 e.1, ih m (fun r hr => hl r (by simp [hr])) (fun r hr => hm r (by simp [hr])) e.2]
  exact key l m h.pl g.pl h2
/-- A normal form and an error. -/
def GivesNF (w : World) (m : Int) (xs : List Int) (e : Ending) (w' : World) : Prop :=
  ∃ (k : Int) (l : List (List Nat)) (A : Option Addr) (n c : Nat), e = .returned (.tuple #[.int .i64 k, .slice A n c, .int .i64 (bfault m xs)]) ∧ SLL w' A n c (l.map zs) ∧ Below w.heap.size w w' ∧ (bfault m xs = 0 → NFw m.toNat xs k l) ∧ (bfault m xs ≠ 0 → k = 0 ∧ l = [])
/-- The factors as lists of naturals. -/
def nlL (xss : List (List Int)) : List (List Nat) := xss.map fun p => p.map Int.toNat
theorem nlL_zs (l : List (List Nat)) : nlL (l.map zs) = l := by
  unfold nlL
  rw [List.map_map]
  conv => rhs; rw [← List.map_id l]
  exact List.map_congr_left fun p _ => toNat_zs p
def wordE (m k : Int) (xss : List (List Int)) : Int := if ffE m xss ≠ 0 then ffE m xss else if 30 < k.natAbs then 2 else if 30 < (wriW m.toNat k (nlL xss)).length then 2 else 0
def wordL (m k : Int) (xss : List (List Int)) : List Int := if wordE m k xss = 0 then wriW m.toNat k (nlL xss) else []
def eq2E (m : Int) (a b : List Int) : Int := if bfault m a ≠ 0 then bfault m a else bfault m b
open Classical in
noncomputable def geqB (m : Int) (a b : List Int) : Bool := decide (eq2E m a b = 0) && decide (gp m.toNat a = gp m.toNat b)
/-- Package garside, as the document asks. -/
structure GarC : Prop where
  normal : ∀ (m : Int) (A : Option Addr) (n c : Nat) (xs : List Int) (w : World), SL w A n c xs → (Lit.int .i64 m).wf = true → Calls Try.prog 15 #[.int .i64 m, .slice A n c] w (GivesNF w m xs)
  check : ∀ (m : Int) (A : Option Addr) (n c : Nat) (xss : List (List Int)) (w : World), SLL w A n c xss → (Lit.int .i64 m).wf = true → Calls Try.prog 20 #[.int .i64 m, .slice A n c] w fun e w' => e = .returned (.int .i64 (ffE m xss)) ∧ Below w.heap.size w w'
  word : ∀ (m k : Int) (A : Option Addr) (n c : Nat) (xss : List (List Int)) (w : World), SLL w A n c xss → (Lit.int .i64 m).wf = true → (Lit.int .i64 k).wf = true → Calls Try.prog 19 #[.int .i64 m, .int .i64 k, .slice A n c] w (GivesLE w (wordE m k xss) (wordL m k xss))
  equal : ∀ (m : Int) (A : Option Addr) (n c : Nat) (xs : List Int) (B : Option Addr) (l d : Nat) (ys : List Int) (w : World), SL w A n c xs → SL w B l d ys → (Lit.int .i64 m).wf = true → Calls Try.prog 22 #[.int .i64 m, .slice A n c, .slice B l d] w fun e w' => e = .returned (.tuple #[.bool (geqB m xs ys), .int .i64 (eq2E m xs ys)]) ∧ Below w.heap.size w w'

/-! ### factors that are right -/
theorem ffGo_ok {N : Nat} : ∀ {xss : List (List Int)} {prev : Option (List Int)}, ffGo N prev xss = 0 → ∃ l : List (List Nat), xss = l.map zs ∧ PL N l ∧ (∀ p ∈ l, p ≠ List.range N ∧ p ≠ fullL N) ∧ (∀ a, prev = some (zs a) → ∀ b r, l = b :: r → tightB a b (inv a) = true) ∧ ∀ a b u v, l = u ++ a :: b :: v → tightB a b (inv a) = true
  | [], prev, _ => ⟨[], rfl, fun p hp => (by cases hp), fun p hp => (by cases hp), fun a _ b r h => (by cases h), fun a b u v h => (by simp at h)⟩
  | p :: ps, prev, h => by
    unfold ffGo at h
    by_cases h1 : pf p = 0
    · rw [if_neg (by rw [h1]; simp)] at h
      by_cases h2 : (badF N p || looseF prev p) = true
      · rw [if_pos h2] at h; omega
      · rw [if_neg h2] at h
        obtain ⟨h9, a, rfl, pa⟩ := (pf_zero p).1 h1
        rw [Bool.or_eq_true, not_or] at h2
        obtain ⟨h3, h4⟩ := h2
        unfold badF at h3
        simp only [Bool.or_eq_true, not_or, decide_eq_true_eq, eqB_iff] at h3
        obtain ⟨h5, h6, h7⟩ := h3
        rw [zs_length] at h5
        obtain ⟨l, e, hl, hne, ht1, ht2⟩ := ffGo_ok h
        refine ⟨a :: l, by rw [e]; rfl, ?_, ?_, ?_, ?_⟩
        · intro q hq
          rcases List.mem_cons.1 hq with rfl | hq
          · exact ⟨pa, by omega⟩
          · exact hl q hq
        · intro q hq
          rcases List.mem_cons.1 hq with rfl | hq
          · exact ⟨fun e => h6 (by rw [e]), fun e => h7 (by rw [e])⟩
          · exact hne q hq
        · intro b hb c r hc
          simp only [List.cons.injEq] at hc
          obtain ⟨rfl, rfl⟩ := hc
          rw [hb] at h4
          unfold looseF at h4
          simp only [Bool.not_eq_true, Bool.not_eq_false'] at h4
          rwa [tightI_zs] at h4
        · intro b c u v huv
          cases u with
          | nil =>
            simp only [List.nil_append, List.cons.injEq] at huv
            obtain ⟨rfl, huv⟩ := huv
            exact ht1 a rfl c v huv
          | cons x u =>
            simp only [List.cons_append, List.cons.injEq] at huv
            exact ht2 b c u v huv.2
    · rw [if_pos h1] at h; exact absurd h h1
theorem tightL_of {N : Nat} : ∀ {l : List (List Nat)}, PL N l → (∀ a b u v, l = u ++ a :: b :: v → tightB a b (inv a) = true) → TightL N (l.map elt)
  | [], _, _ => trivial
  | a :: l, hp, ht => by
    obtain ⟨pa, la⟩ := hp a (by simp)
    refine TightL.cons (elt_spec pa la).1 (fun b r hb => ?_) (tightL_of (fun q hq => hp q (by simp [hq])) fun x y u v h => ht x y (a :: u) v (by rw [h]; rfl))
    cases l with
    | nil => simp at hb
    | cons q l =>
      simp only [List.map_cons, List.cons.injEq] at hb
      obtain ⟨pq, lq⟩ := hp q (by simp)
      rw [← hb.1]
      exact (tightB_iff pa pq la lq fun s hs => inv_getD_self pa (by omega)).1 (ht a q [] l rfl)
/-- Factors without a fault are those of a normal form. -/
theorem ffE_ok {m : Int} {xss : List (List Int)} (h : ffE m xss = 0) : ∃ (n : Nat) (l : List (List Nat)), m = (n : Int) ∧ 2 ≤ n ∧ n ≤ 6 ∧ xss = l.map zs ∧ l.length ≤ 30 ∧ PL n l ∧ NF n (l.map elt) := by
  unfold ffE at h
  split at h
  · omega
  · next h1 =>
    split at h
    · omega
    · next h2 =>
      obtain ⟨l, e, hl, hne, _, ht⟩ := ffGo_ok h
      refine ⟨m.toNat, l, by omega, by omega, by omega, e, by rw [e, List.length_map] at h2; omega, hl, tightL_of hl ht, ?_, ?_⟩
      · intro x hx e1
        obtain ⟨p, hp, rfl⟩ := List.mem_map.1 hx
        exact (hne p hp).1 ((elt_one (hl p hp).1 (hl p hp).2).1 e1)
      · intro x hx e1
        obtain ⟨p, hp, rfl⟩ := List.mem_map.1 hx
        exact (hne p hp).2 ((elt_full (hl p hp).1 (hl p hp).2).1 e1)
end Go.Proofs.Ytoaiblhlpdaeoaa
