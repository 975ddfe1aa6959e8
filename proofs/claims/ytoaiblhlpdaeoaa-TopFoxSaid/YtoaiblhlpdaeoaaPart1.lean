/- Several texts in one. -/
import Derived.Test.YtoaiblhlpdaeoaaBase1
import Derived.Test.YtoaiblhlpdaeoaaProg
import Derived.WalkKit
import Derived.Deep.QuietTactic
import Derived.BigQuiet
import Derived.WalkSpells
import Derived.WalkLawsBesides
import Derived.Outline
import Derived.Deep.DeepCutAuto
import Derived.Shelf.Bits.Mul64
import Derived.Ground.Names2Prog
import Derived.Laws.CopyOwn
import Derived.Deep.OwnRows
import Derived.Handy
/- Small functions over permutations: compose, identity, countSmaller, Below. -/
namespace Go.Proofs.Ytoaiblhlpdaeoaa
set_option linter.unusedVariables false
set_option linter.unusedSimpArgs false
open Go.RowKit

theorem int_info : (Try.prog.info? 3).map (fun i => (i.zero, i.size, i.bytes)) = some (some (.int .i64 0), 1, 8) := by kernel_rfl

/-- The result of a function that makes a slice. -/
def GivesOwn (w : World) (xs : List Int) (e : Ending) (w' : World) : Prop :=
  ∃ A n c, e = .returned (.slice A n c) ∧ OwnI w' w.heap.size A n c xs ∧ Below w.heap.size w w'

theorem add_zero_block (g j : Nat) : (⟨g, 0, none⟩ : Addr).add j = ⟨g, j, none⟩ := by unfold Addr.add; split <;> simp_all

set_option maxHeartbeats 1000000 in
theorem pcompose_any (A B : Option Addr) (n m c d : Nat) (a b : List Nat) (w : World) (ha : IL w A n (zs a)) (hb : IL w B m (zs b)) (hab : ∀ x ∈ a, x < b.length) :
    Calls Try.prog 90 #[.slice A n c, .slice B m d] w (GivesOwn w (zs (comp a b))) := by
  have hna := ha.small
  have hnb := hb.small
  have HL : Hid (a.length = n ∧ b.length = m) := ⟨by have := ha.len; rwa [zs_length] at this, by have := hb.len; rwa [zs_length] at this⟩
  have HAB := hide hab
  clear hab
  obtain ⟨i0, hi0, hz0, hz1, hz2⟩ := info_parts int_info
  go_enter Try.func90, Try.ntmps90
  go_wp2_with (at_make; refine wpList_make_full _ rfl _ _ 22 rfl w.heap.size 3 i0 (.int .i64 0) 1 Try.underlying22 hi0 hz0 hz1 .i64 .i64 _ _ n rfl rfl rfl rfl (by rw [hz2]; omega) (by unfold maxLen; omega) (Nat.le_refl _) ?_; intro w1 hown1 hg1)
  have hB1 : Below w.heap.size w w1 := (Below.refl _ _).grown hg1 (Nat.le_refl _) (by intro k hk; cases hk)
  have hw1 := OwnI.zero (z := #[]) hown1 (by omega)
  clear hown1 hg1
  go_loopw [13] (fun i wr => ∃ k : Nat, k ≤ n ∧ i = .int .i64 k ∧ OwnI wr w.heap.size (some ⟨w.heap.size, 0, none⟩) n n (fillN (fun j => (zs (comp a b)).getD j 0) n k) ∧ Below w.heap.size w wr) (fun i _ => n - (intOf i).toNat)
  case atStart => exact ⟨0, Nat.zero_le _, rfl, by rw [fillN_zero]; exact hw1, hB1⟩
  case round =>
    obtain ⟨k, hk, rfl, hown, hnx⟩ := hrel
    have ha' := ha.below hnx
    have hb' := hb.below hnx
    clear ha hb hw1 hB1
    by_cases hlt : k < n
    · obtain ⟨ad, rfl, hca⟩ := ha'.at_ hlt
      rw [zs_getD] at hca
      have hx : a.getD k 0 < m := by
        have hlk : k < a.length := by have := HL.out; omega
        have := HAB.out (a.getD k 0) (by simp [List.getD, List.getElem?_eq_getElem hlk])
        have := HL.out
        omega
      obtain ⟨bd, rfl, hcb⟩ := hb'.at_ hx
      rw [zs_getD] at hcb
      have HV : Hid ((zs (comp a b)).getD k 0 = ((b.getD (a.getD k 0) 0 : Nat) : Int)) := by
        rw [zs_getD, comp_getD (by have := HL.out; omega)]; exact rfl
      have hcell := hown.cell hlt
      have hfr := hown.frozen k
      have HS := hide (hown.set_ k ((zs (comp a b)).getD k 0))
      clear ha' hb' hown
      generalize a.getD k 0 = x at *
      generalize b.getD x 0 = y at *
      generalize hz : (fillN (fun j => (zs (comp a b)).getD j 0) n k).getD k 0 = z at *
      clear hz
      go_wp2
      go_roundw
      case rel =>
        refine ⟨k + 1, by omega, by go_num, ?_, hnx.setCell (Nat.le_refl _) _⟩
        have := HS.out
        rw [fillN_set (fun j => (zs (comp a b)).getD j 0), HV.out] at this
        exact this
      case measure => simp [intOf]; omega
    · have HF : Hid (fillN (fun j => (zs (comp a b)).getD j 0) n k = zs (comp a b)) := by
        obtain rfl : k = n := by omega
        exact fillN_full (by rw [zs_length, comp_length]; exact HL.out.1) (fun _ _ => rfl)
      go_wp2
      go_ret
      refine ⟨_, _, _, rfl, ?_, hnx⟩
      rw [HF.out] at hown
      exact hown
end Go.Proofs.Ytoaiblhlpdaeoaa
/- identity, Row, Below, countSmaller, Index. -/
namespace Go.Proofs.Ytoaiblhlpdaeoaa
set_option linter.unusedVariables false
set_option linter.unusedSimpArgs false
open Go.RowKit

theorem emod_of_tmod (n : Int) (m : Nat) (h0 : 0 < m) : n % (m : Int) = if n.tmod m < 0 then n.tmod m + m else n.tmod m := by
  have h1 := Int.tmod_add_mul_tdiv n m
  have h2 := Int.tmod_lt_of_pos n (b := m) (by omega)
  have h3 := Int.lt_tmod_of_pos n (b := m) (by omega)
  generalize hr : n.tmod m = r at *
  have e : ∀ x : Int, 0 ≤ x → x < m → (∃ q, n = x + m * q) → n % (m : Int) = x := fun x hx0 hx1 ⟨q, hq⟩ => by
    rw [hq, Int.add_mul_emod_self_left]
    exact Int.emod_eq_of_lt hx0 hx1
  by_cases h : r < 0
  · rw [if_pos h]
    refine e _ (by omega) (by omega) ⟨n.tdiv m - 1, ?_⟩
    rw [Int.mul_sub]
    omega
  · rw [if_neg h]
    exact e _ (by omega) (by omega) ⟨n.tdiv m, by omega⟩

set_option maxHeartbeats 1000000 in
theorem mbelow_any (n : Int) (m : Nat) (w : World) (h0 : 0 < m) (hm : m ≤ 1000000) :
    Calls Try.prog 65 #[.int .i64 n, .int .i64 m] w fun e w' => e = .returned (.int .i64 (n % (m : Int))) ∧ w = w' := by
  have HE := hide (emod_of_tmod n m h0)
  have h2 := Int.tmod_lt_of_pos n (b := m) (by omega)
  have h3 := Int.lt_tmod_of_pos n (b := m) (by omega)
  by_cases h : n.tmod m < 0
  · have HE' : Hid (n % (m : Int) = n.tmod m + m) := by rw [HE.out, if_pos h]; exact rfl
    clear HE
    go_enter Try.func65, Try.ntmps65
    go_wp2
    go_ret
    rw [HE'.out]
    exact ⟨rfl, rfl⟩
  · have HE' : Hid (n % (m : Int) = n.tmod m) := by rw [HE.out, if_neg h]; exact rfl
    clear HE
    go_enter Try.func65, Try.ntmps65
    go_wp2
    go_ret
    rw [HE'.out]
    exact ⟨rfl, rfl⟩

end Go.Proofs.Ytoaiblhlpdaeoaa
/- slices.Delete of one element of a slice that the call owns. -/
namespace Go.Proofs.Ytoaiblhlpdaeoaa
set_option linter.unusedVariables false
set_option linter.unusedSimpArgs false
open Go.RowKit

/-- ys written over xs from o on. -/
def setMany (xs : List Int) (o : Nat) : List Int → List Int
  | [] => xs
  | y :: ys => setMany (xs.set o y) (o + 1) ys
theorem setMany_length : ∀ (ys xs : List Int) (o : Nat), (setMany xs o ys).length = xs.length
  | [], _, _ => rfl
  | y :: ys, xs, o => by rw [setMany, setMany_length ys]; simp
theorem setMany_getD : ∀ (ys xs : List Int) (o j : Nat), o + ys.length ≤ xs.length → (setMany xs o ys).getD j 0 = if o ≤ j ∧ j < o + ys.length then ys.getD (j - o) 0 else xs.getD j 0
  | [], xs, o, j, _ => by rw [setMany, if_neg (by simp)]
  | y :: ys, xs, o, j, h => by
    simp only [List.length_cons] at h
    rw [setMany, setMany_getD ys _ _ _ (by simp; omega)]
    by_cases h1 : o + 1 ≤ j ∧ j < o + 1 + ys.length
    · rw [if_pos h1, if_pos (by simp; omega)]
      rw [show j - o = (j - (o + 1)) + 1 from by omega]
      simp [List.getD]
    · rw [if_neg h1]
      by_cases h2 : j = o
      · subst h2
        rw [if_pos (by simp)]
        simp [List.getD, show j < xs.length by omega]
      · rw [if_neg (by simp; omega)]
        have : ¬ o = j := fun e => h2 e.symm
        simp [List.getD, List.getElem?_set, this]

section
variable {w w' : World} {base g n c : Nat} {xs : List Int}
theorem OwnI.setCells : ∀ (ys : List Int) {w : World} {xs : List Int} (o : Nat), OwnI w base (some ⟨g, 0, none⟩) n c xs → OwnI (w.setCells g o (ys.map (Value.int .i64))) base (some ⟨g, 0, none⟩) n c (setMany xs o ys)
  | [], _, _, _, h => h
  | y :: ys, _, _, o, h => OwnI.setCells ys (o + 1) (h.set_ o y)
theorem OwnI.shrink {A : Option Addr} {m : Nat} (h : OwnI w base A n c xs) (hm : m ≤ n) (h0 : 0 < n) : OwnI w base A m c (xs.take m) := by
  have hl := h.len
  refine ⟨⟨by simp; omega, ?_⟩, by have := h.small; omega⟩
  rcases h.own.2 with ⟨_, h2⟩ | ⟨g, cap, cur, hv, hg, hh, hnc, hcm, hcs, ht⟩
  · omega
  · simp only [Value.slice.injEq, true_and] at hv
    obtain ⟨rfl, rfl⟩ := hv
    refine .inr ⟨g, c, cur, rfl, hg, hh, by omega, hcm, hcs, ?_⟩
    rw [List.map_take, ← ht, List.take_take]
    congr 1
    omega
end

/-- The list without its element i. -/
def without (xs : List Int) (i : Nat) : List Int := xs.take i ++ xs.drop (i + 1)
theorem without_length {xs : List Int} {i : Nat} (h : i < xs.length) : (without xs i).length = xs.length - 1 := by simp [without]; omega
theorem deleted {xs : List Int} {n i : Nat} (hl : xs.length = n) (hi : i < n) : ((setMany xs i (xs.drop (i + 1))).set (n - 1) 0).take (n - 1) = without xs i := by
  have hx : (setMany xs i (xs.drop (i + 1))).length = n := by rw [setMany_length, hl]
  apply List.ext_getElem?
  intro j
  by_cases hj : j < n - 1
  · rw [List.getElem?_take, if_pos hj, List.getElem?_set, if_neg (by omega)]
    have h1 := setMany_getD (xs.drop (i + 1)) xs i j (by simp; omega)
    have h2 : ((setMany xs i (xs.drop (i + 1)))[j]?) = some ((setMany xs i (xs.drop (i + 1))).getD j 0) := by
      simp [List.getD, List.getElem?_eq_getElem (show j < (setMany xs i (xs.drop (i + 1))).length by omega)]
    rw [h2, h1]
    have h3 : (without xs i)[j]? = some ((without xs i).getD j 0) := by
      simp [List.getD, List.getElem?_eq_getElem (show j < (without xs i).length by rw [without_length (by omega)]; omega)]
    rw [h3]
    congr 1
    by_cases hji : j < i
    · rw [if_neg (by omega)]
      simp only [without, List.getD, List.getElem?_append, List.length_take, List.getElem?_take]
      rw [if_pos (by omega), if_pos hji]
    · rw [if_pos (by simp; omega)]
      simp only [without, List.getD, List.getElem?_append, List.length_take, List.getElem?_drop]
      rw [if_neg (by omega), show min i xs.length = i from by omega]
  · rw [List.getElem?_eq_none (by simp; omega), List.getElem?_eq_none (by rw [without_length (by omega)]; omega)]

end Go.Proofs.Ytoaiblhlpdaeoaa
/- slices.Index, and timbref1.Number. -/
namespace Go.Proofs.Ytoaiblhlpdaeoaa
set_option linter.unusedVariables false
set_option linter.unusedSimpArgs false
open Go.RowKit

theorem idx_sorted : ∀ {us : List Nat} {x : Nat}, Sorted us → x ∈ us → us.idxOf x = cntN us x
  | u :: t, x, hs, hx => by
    have hs' := List.pairwise_cons.1 hs
    by_cases h : x = u
    · subst h
      rw [cntN_self, cnt_zero (fun y hy => Nat.le_of_lt (hs'.1 y hy))]
      simp [List.idxOf_cons]
    · have hxt : x ∈ t := by
        rcases List.mem_cons.1 hx with e | e
        · exact absurd e h
        · exact e
      rw [cntN_cons, if_pos (hs'.1 x hxt), ← idx_sorted hs'.2 hxt, List.idxOf_cons]
      have hb : (u == x) = false := by simp; exact fun e => h e.symm
      rw [hb]
      rfl
theorem idxOf_lt {us : List Nat} {x : Nat} (h : x ∈ us) : us.idxOf x < us.length := List.idxOf_lt_length_iff.2 h

/-- What timbref1.Number's loop knows. -/
structure NumSt (a us : List Nat) (k : Nat) : Prop where
  perm : us.Perm (a.drop k)
  sorted : Sorted us
theorem NumSt.step {a us : List Nat} {k : Nat} (h : NumSt a us k) (hk : k < a.length) :
    a.getD k 0 ∈ us ∧ us.length = a.length - k ∧ us.idxOf (a.getD k 0) = cntLt ((zs a).drop k) (a.getD k 0 : Nat) ∧ NumSt a (us.take (us.idxOf (a.getD k 0)) ++ us.drop (us.idxOf (a.getD k 0) + 1)) (k + 1) := by
  have hd : a.drop k = a.getD k 0 :: a.drop (k + 1) := by rw [getD_eq hk, ← List.drop_eq_getElem_cons hk]
  have hm : a.getD k 0 ∈ us := h.perm.mem_iff.2 (by rw [hd]; exact List.mem_cons_self ..)
  have hi : us.idxOf (a.getD k 0) = cntN us (a.getD k 0) := idx_sorted h.sorted hm
  have hl : us.length = a.length - k := by rw [h.perm.length_eq, List.length_drop]
  refine ⟨hm, hl, ?_, ?_, sorted_pick h.sorted _⟩
  · rw [hi, zs_drop, cntLt_zs, cntN_perm h.perm]
  · have hp := perm_pick (idxOf_lt hm)
    have hx : us.getD (us.idxOf (a.getD k 0)) 0 = a.getD k 0 := by rw [hi]; exact sorted_at h.sorted hm
    rw [hx] at hp
    have h2 := hp.trans h.perm
    rw [hd] at h2
    exact h2.cons_inv

end Go.Proofs.Ytoaiblhlpdaeoaa
/- timbref1: After, Back, Times; slices.Clone. -/
namespace Go.Proofs.Ytoaiblhlpdaeoaa
set_option linter.unusedVariables false
set_option linter.unusedSimpArgs false
open Go.RowKit

theorem OwnI.nil {w : World} {base n c : Nat} {A : Option Addr} {xs : List Int} (h : OwnI w base A n c xs) : A = none → n = 0 ∧ c = 0 := by
  rintro rfl
  rcases h.own.2 with ⟨hv, h0⟩ | ⟨g, cap, cur, hv, _⟩
  · injection hv with _ _ hc
    exact ⟨h0, hc⟩
  · injection hv with hv
    cases hv

/-- A permutation of degree k. -/
def PN' (k : Nat) (a : List Nat) : Prop := isP a ∧ a.length = k

set_option maxHeartbeats 1000000 in
theorem clone_any (A : Option Addr) (n c : Nat) (xs : List Int) (w : World) (ha : IL w A n xs) (hc : A = none → n = 0 ∧ c = 0) :
    Calls Try.prog 25 #[.slice A n c] w (GivesOwn w xs) := by
  obtain ⟨i0, hi0, hz0, hz1, hz2⟩ := info_parts int_info
  rcases A with _ | ad
  · obtain ⟨rfl, rfl⟩ := hc rfl
    have hx : xs = [] := List.eq_nil_of_length_eq_zero ha.len
    subst hx
    have hnil := fun (W : World) => Lib.run_eql_slice_nil (P := Try.prog) W 22 3 none 0 0 0 0 Try.underlying22
    go_enter Try.func25, Try.ntmps25
    go_wp2
    go_ret
    exact ⟨none, 0, 0, rfl, OwnI.nil_ _ _, Below.refl _ _⟩
  · have hnil := fun (W : World) => Lib.run_eql_slice_nil (P := Try.prog) W 22 3 (some ad) n c 0 0 Try.underlying22
    have hsm := ha.small
    have hl0 : OwnI (w.alloc (.cells #[] 3)) w.heap.size (some ⟨w.heap.size, 0, none⟩) 0 0 [] := OwnI.lit w [] (Nat.le_refl _) (by simp) rfl rfl rfl
    have ha1 := ha.alloc (.cells #[] 3)
    have hb1 : Below w.heap.size w (w.alloc (.cells #[] 3)) := (Below.refl _ _).alloc (Nat.le_refl _) _
    go_enter Try.func25, Try.ntmps25
    go_wp2_with (at_builtin; refine wpList_append_int _ rfl (.tmp 5) (.tmp 6) 22 rfl w.heap.size i0 Try.underlying22 hi0 hz0 hz1 hz2 (some ⟨w.heap.size, 0, none⟩) 0 0 [] rfl hl0 (some ad) n c xs rfl ha1 (by omega) (by simp) ?_; intro A9 c9 w9 happ)
    go_ret
    have ho := happ.own
    rw [List.nil_append] at ho
    rw [Nat.zero_add] at ho
    refine ⟨_, _, _, rfl, ho, hb1.grown happ.grown (by simp) (fun g hg => by simp [Value.ownBlock] at hg; omega)⟩

/-- The state of the loop of Times. -/
structure TiSt (n : Nat) (T o b : List Nat) (m : Nat) : Prop where
  po : PN' n o
  pb : PN' n b
  val : comp o (powN b m) = T
theorem TiSt.done {n : Nat} {T o b : List Nat} (h : TiSt n T o b 0) : o = T := by
  have := h.val
  rw [powN_zero, comp_range (fun x hx => by have := h.po.1.1 x hx; have := h.po.2; have := h.pb.2; omega)] at this
  exact this
end Go.Proofs.Ytoaiblhlpdaeoaa
/- Slices of integers, and slices of slices of integers, with what a nil slice is. -/
namespace Go.Proofs.Ytoaiblhlpdaeoaa
set_option linter.unusedVariables false
set_option linter.unusedSimpArgs false
open Go.RowKit

/-- A slice that reads as xs. -/
structure SL (w : World) (A : Option Addr) (n c : Nat) (xs : List Int) : Prop where
  il : IL w A n xs
  nil : A = none → n = 0 ∧ c = 0
  cap : n ≤ c
theorem SL.below {w w' : World} {A : Option Addr} {n c : Nat} {xs : List Int} (h : SL w A n c xs) (hb : Below w.heap.size w w') : SL w' A n c xs := ⟨h.il.below hb, h.nil, h.cap⟩
theorem SL.nil_ (w : World) : SL w none 0 0 [] := ⟨IL.nil_ w, fun _ => ⟨rfl, rfl⟩, Nat.le_refl _⟩
theorem OwnI.sl {w : World} {base n c : Nat} {A : Option Addr} {xs : List Int} (h : OwnI w base A n c xs) : SL w A n c xs := ⟨h.il, h.nil, h.cap⟩
theorem SL.lit (w : World) (xs : List Int) (hs : xs.length ≤ 1000) {cs : Array Value} (hc : cs = (xs.map (Value.int .i64)).toArray) {m : Nat} (hm : xs.length = m) : SL (w.alloc (.cells cs 3)) (some ⟨w.heap.size, 0, none⟩) m m xs :=
  ⟨IL.lit w xs (by omega) hc hm, fun h => (by cases h), Nat.le_refl _⟩
theorem SL.inside {w : World} {A : Option Addr} {n c : Nat} {xs : List Int} (h : SL w A n c xs) : 0 < n → ∀ ad, A = some ad → ad.block < w.heap.size := fun hn ad e => by
  obtain ⟨ad2, e2, hl, _⟩ := h.il.mem hn
  rw [e] at e2
  cases e2
  exact hl
/-- A slice of slices that reads as xss. -/
structure SLL (w : World) (A : Option Addr) (n c : Nat) (xss : List (List Int)) : Prop where
  len : xss.length = n
  small : n ≤ 17592186044416
  nil : A = none → n = 0 ∧ c = 0
  cap : n ≤ c
  mem : 0 < n → ∃ ad, A = some ad ∧ ad.block < w.heap.size ∧ ∀ j, j < n → ∃ B m d, w.cell? (ad.add j) = some (.slice B m d) ∧ SL w B m d (xss.getD j [])
theorem SLL.ill {w : World} {A : Option Addr} {n c : Nat} {xss : List (List Int)} (h : SLL w A n c xss) : ILL w A n xss :=
  ⟨h.len, h.small, fun h0 => by
    obtain ⟨ad, e, hl, hc⟩ := h.mem h0
    exact ⟨ad, e, hl, fun j hj => by
      obtain ⟨B, m, d, h1, h2⟩ := hc j hj
      exact ⟨B, m, d, h1, h2.il⟩⟩⟩
theorem SLL.at_ {w : World} {A : Option Addr} {n c k : Nat} {xss : List (List Int)} (h : SLL w A n c xss) (hk : k < n) : ∃ ad B m d, A = some ad ∧ w.cell? (ad.add k) = some (.slice B m d) ∧ SL w B m d (xss.getD k []) := by
  obtain ⟨ad, e, _, hc⟩ := h.mem (by omega)
  obtain ⟨B, m, d, h1, h2⟩ := hc k hk
  exact ⟨ad, B, m, d, e, h1, h2⟩
theorem SLL.below {w w' : World} {A : Option Addr} {n c : Nat} {xss : List (List Int)} (h : SLL w A n c xss) (hb : Below w.heap.size w w') : SLL w' A n c xss :=
  ⟨h.len, h.small, h.nil, h.cap, fun hn => by
    obtain ⟨ad, e, hl, hc⟩ := h.mem hn
    refine ⟨ad, e, Nat.lt_of_lt_of_le hl hb.size, fun j hj => ?_⟩
    obtain ⟨B, m, d, h1, h2⟩ := hc j hj
    exact ⟨B, m, d, (hb.cell (p := ad.add j) (by rw [block_of_add]; exact hl)).trans h1, h2.below hb⟩⟩
theorem SLL.nil_ (w : World) : SLL w none 0 0 [] := ⟨rfl, by omega, fun _ => ⟨rfl, rfl⟩, Nat.le_refl _, fun h => absurd h (by omega)⟩
/-- A literal of slices. -/
theorem SLL.lit {w : World} {vs : List Value} {xss : List (List Int)} (hl : vs.length = xss.length) (hs : xss.length ≤ 1000) (h : ∀ j, j < xss.length → ∃ B m d, vs[j]? = some (.slice B m d) ∧ SL w B m d (xss.getD j [])) {cs : Array Value} (hc : cs = vs.toArray) {m : Nat} (hm : xss.length = m) :
    SLL (w.alloc (.cells cs 22)) (some ⟨w.heap.size, 0, none⟩) m m xss := by
  subst hc
  refine ⟨hm, by omega, fun h => (by cases h), Nat.le_refl _, fun _ => ⟨⟨w.heap.size, 0, none⟩, rfl, by simp, fun j hj => ?_⟩⟩
  obtain ⟨B, n, d, h1, h2⟩ := h j (by omega)
  refine ⟨B, n, d, ?_, h2.below ((Below.refl _ _).alloc (Nat.le_refl _) _)⟩
  rw [show (⟨w.heap.size, 0, none⟩ : Addr).add j = ⟨w.heap.size, j, none⟩ by unfold Addr.add; split <;> simp_all, (Blk.new w 22 vs.toArray).cell j]
  simpa using h1
theorem SLL.of_rows {w : World} {base n c : Nat} {A : Option Addr} {vs : List Value} {xss : List (List Int)} (h : OwnV w base A n c vs) (hr : RowsI w base vs xss) : SLL w A n c xss := by
  have hl := h.len
  have hcap : (A = none → n = 0 ∧ c = 0) ∧ n ≤ c := by
    rcases h.own.2 with ⟨hv, h0⟩ | ⟨g, cap, cur, hv, _, _, hnc, _⟩
    · simp only [Value.slice.injEq] at hv
      exact ⟨fun _ => ⟨hv.2.1, hv.2.2⟩, by omega⟩
    · simp only [Value.slice.injEq, true_and] at hv
      exact ⟨fun e => (by rw [e] at hv; exact absurd hv.1 (by simp)), by omega⟩
  refine ⟨by rw [← hr.len]; exact hl, by have := h.small; omega, hcap.1, hcap.2, fun hn => ?_⟩
  obtain ⟨g, rfl, _⟩ := h.cellAt hn
  refine ⟨⟨g, 0, none⟩, rfl, (h.lt g rfl).2, fun j hj => ?_⟩
  obtain ⟨g', e, hc⟩ := h.cellAt hj
  injection e with e
  injection e with e
  subst e
  obtain ⟨B, m, d, h1, h2⟩ := hr.row j (by omega)
  exact ⟨B, m, d, by rw [show (⟨g, 0, none⟩ : Addr).add j = ⟨g, j, none⟩ by unfold Addr.add; split <;> simp_all, hc, h1], h2.sl⟩
end Go.Proofs.Ytoaiblhlpdaeoaa
/- timbref1.Spelled: the word of a permutation. -/
namespace Go.Proofs.Ytoaiblhlpdaeoaa
set_option linter.unusedVariables false
set_option linter.unusedSimpArgs false
open Go.RowKit

/-- The letters of the word of a permutation. -/
def splW (f : Nat) (p : List Nat) : List Int := (Gar.spl f p).map Gar.up

theorem find_first {q : Nat → Bool} {k : Nat} (hk : q k = true) (hb : ∀ j, j < k → q j = false) : ∀ n, k < n → (List.range n).find? q = some k
  | 0, h => absurd h (by omega)
  | n + 1, h => by
    rw [List.range_succ, List.find?_append]
    by_cases e : k < n
    · rw [find_first hk hb n e]; rfl
    · have e2 : k = n := by omega
      subst e2
      have h0 : (List.range k).find? q = none := List.find?_eq_none.2 fun j hj => by
        rw [hb j (List.mem_range.1 hj)]
        simp
      rw [h0]
      simp [hk]
theorem firstD_eq {p : List Nat} {k : Nat} (hl : k + 1 < p.length) (hd : p.getD (k + 1) 0 < p.getD k 0) (hb : ∀ j, j < k → p.getD j 0 ≤ p.getD (j + 1) 0) : Gar.firstD p = some k :=
  find_first (decide_eq_true hd) (fun j hj => decide_eq_false (by have := hb j hj; omega)) _ (by omega)
theorem splW_succ {p : List Nat} {k : Nat} (h : Gar.firstD p = some k) (f : Nat) : splW (f + 1) p = ((k : Int) + 1) :: splW f (Gar.swapL p k) := by
  unfold splW
  conv => lhs; unfold Gar.spl
  rw [h]
  rfl
theorem zs_swap (p : List Nat) (k : Nat) : ((zs p).set k ((p.getD (k + 1) 0 : Nat) : Int)).set (k + 1) ((p.getD k 0 : Nat) : Int) = zs (Gar.swapL p k) := by
  unfold zs Gar.swapL
  rw [List.map_set, List.map_set]
  rfl
theorem splW_le {f : Nat} : ∀ {p : List Nat}, (splW f p).length ≤ f := by
  induction f with
  | zero => intro p; exact Nat.le_refl _
  | succ f ih =>
    intro p
    cases h : Gar.firstD p with
    | none => unfold splW Gar.spl; rw [h]; simp
    | some k => rw [splW_succ h, List.length_cons]; have := ih (p := Gar.swapL p k); omega

end Go.Proofs.Ytoaiblhlpdaeoaa
/- math/bits.Mul at this program, by the library's contract for it. -/
namespace Go.Proofs.Ytoaiblhlpdaeoaa
set_option linter.unusedVariables false
set_option linter.unusedSimpArgs false
open Go.Shelf
def lays212_ren : Go.Shelf.Ren := ⟨fun | 212 => 101 | 263 => 123 | 264 => 124 | n => n, fun | 46 => 100 | 51 => 118 | 146 => 119 | 53 => 121 | 148 => 122 | n => n, fun | n => n⟩
theorem lays212 : Go.Proofs.Lays.n212 Try.prog lays212_ren := {
  mixed := by kernel_rfl
  f212 := Try.func101.trans (congrArg some (by kernel_rfl))
  f263 := Try.func123.trans (congrArg some (by kernel_rfl))
  f264 := Try.func124.trans (congrArg some (by kernel_rfl))
  t46 := Try.underlying100
  a46 := Try.isAgg100
  z46 := Try.sizeOf100
  v46 := Try.zeroValue100
  t51 := Try.underlying118
  a51 := Try.isAgg118
  z51 := Try.sizeOf118
  v51 := Try.zeroValue118
  t53 := Try.underlying121
  a53 := Try.isAgg121
  z53 := Try.sizeOf121
  v53 := Try.zeroValue121
  t146 := Try.underlying119
  a146 := Try.isAgg119
  z146 := Try.sizeOf119
  v146 := Try.zeroValue119
  t148 := Try.underlying122
  a148 := Try.isAgg122
  z148 := Try.sizeOf122
  v148 := Try.zeroValue122 }
open Go.RowKit Go.Lib in
/-- math/bits.Mul: "Mul returns the full-width product of x and y": on a machine of 64 bits: Mul64's. (LAID: no walk: one application.) -/
theorem bits_Mul (x y : Nat) (hx : x < 18446744073709551616) (hy : y < 18446744073709551616) (w : World) :
    Calls Try.prog 101 #[.int .u64 x, .int .u64 y] w fun e w' => e = .returned (.tuple #[.int .u64 ((x * y / 18446744073709551616 : Nat) : Int), .int .u64 ((x * y % 18446744073709551616 : Nat) : Int)]) ∧ w' = w := Any.bits_Mul lays212 x y hx hy w
end Go.Proofs.Ytoaiblhlpdaeoaa
/- slices.Equal at integers. -/
namespace Go.Proofs.Ytoaiblhlpdaeoaa
set_option linter.unusedVariables false
set_option linter.unusedSimpArgs false
open Go.RowKit

theorem eq_take_ne {xs ys : List Int} {k : Nat} (hl : xs.length = ys.length) (hk : k < xs.length) (h : xs.getD k 0 ≠ ys.getD k 0) : xs ≠ ys := by
  rintro rfl; exact h rfl
theorem eq_of_getD {xs ys : List Int} (hl : xs.length = ys.length) (h : ∀ j, j < xs.length → xs.getD j 0 = ys.getD j 0) : xs = ys := by
  apply List.ext_getElem hl
  intro i h1 h2
  have := h i h1
  simpa [List.getD, List.getElem?_eq_getElem h1, List.getElem?_eq_getElem h2] using this

theorem same_succ {xs ys : List Int} {k : Nat} (h : ∀ j, j < k → xs.getD j 0 = ys.getD j 0) (hk : xs.getD k 0 = ys.getD k 0) : ∀ j, j < k + 1 → xs.getD j 0 = ys.getD j 0 := fun j hj => by
  rcases Nat.lt_or_ge j k with h1 | h1
  · exact h j h1
  · obtain rfl : j = k := by omega
    exact hk

set_option maxHeartbeats 1000000 in
theorem equal_any (A B : Option Addr) (n m c d : Nat) (xs ys : List Int) (w : World) (ha : IL w A n xs) (hb : IL w B m ys) :
    Calls Try.prog 21 #[.slice A n c, .slice B m d] w fun e w' => e = .returned (.bool (eqB xs ys)) ∧ Below w.heap.size w w' := by
  have hna := ha.small
  have hnb := hb.small
  have hla := ha.len
  have hlb := hb.len
  have HL : Hid (xs.length = n ∧ ys.length = m) := ⟨hla, hlb⟩
  clear hla hlb
  by_cases hnm : n = m
  · subst hnm
    go_enter Try.func21, Try.ntmps21
    go_wp2
    go_loopw [13] (fun i wr => ∃ k : Nat, k ≤ n ∧ i = .int .i64 k ∧ Hid (∀ j, j < k → xs.getD j 0 = ys.getD j 0) ∧ Below w.heap.size w wr) (fun i _ => n - (intOf i).toNat)
    case atStart => exact ⟨0, Nat.zero_le _, rfl, (fun j hj => absurd hj (by omega)), Below.refl _ _⟩
    case round =>
      obtain ⟨k, hk, rfl, hsame, hnx⟩ := hrel
      have ha' := ha.below hnx
      have hb' := hb.below hnx
      by_cases hlt : k < n
      · obtain ⟨ad, rfl, hca⟩ := ha'.at_ hlt
        obtain ⟨bd, rfl, hcb⟩ := hb'.at_ hlt
        clear ha hb ha' hb'
        by_cases hne : xs.getD k 0 = ys.getD k 0
        · have hbne : ((xs.getD k 0) != (ys.getD k 0)) = false := by rw [hne]; simp
          have HS := hide (same_succ hsame.out hne)
          clear hne hsame
          generalize xs.getD k 0 = x at *
          generalize ys.getD k 0 = y at *
          go_wp2
          go_quiet (fail)
          go_wp2
          go_roundw
          case rel => exact ⟨k + 1, by omega, by go_num, HS, below_drewN hnx _⟩
          case measure => simp [intOf]; omega
        · have hbne : ((xs.getD k 0) != (ys.getD k 0)) = true := by simpa using hne
          have HE := hide (eqB_false (eq_take_ne (HL.out.1.trans HL.out.2.symm) (by have := HL.out.1; omega) hne))
          clear hne hsame
          generalize xs.getD k 0 = x at *
          generalize ys.getD k 0 = y at *
          go_wp2
          go_quiet (fail)
          go_wp2
          go_ret
          rw [HE.out]
          exact ⟨rfl, below_drewN hnx _⟩
      · have HE := hide (eqB_true (eq_of_getD (HL.out.1.trans HL.out.2.symm) (fun j hj => hsame.out j (by have := HL.out.1; omega))))
        go_wp2
        go_ret
        rw [HE.out]
        exact ⟨rfl, hnx⟩
  · have HE := hide (eqB_false (xs := xs) (ys := ys) (fun h => hnm (by have := HL.out.1; have := HL.out.2; subst h; omega)))
    have hb1 : ((n : Int) != (m : Int)) = true := by simp; omega
    clear ha hb
    go_enter Try.func21, Try.ntmps21
    go_wp2
    go_ret
    rw [HE.out]
    exact ⟨rfl, Below.refl _ _⟩
end Go.Proofs.Ytoaiblhlpdaeoaa
/- timbref1.FreeFault: which words are words. -/
namespace Go.Proofs.Ytoaiblhlpdaeoaa
set_option linter.unusedVariables false
set_option linter.unusedSimpArgs false
open Go.RowKit

/-- A letter of the free group with 6 generators. -/
def okL (x : Int) : Bool := decide (x ≠ 0 ∧ x ≤ 6 ∧ -6 ≤ x)
def ffault (w : List Int) : Int := if 60 < w.length then 2 else if w.all okL then 0 else 1
theorem ffault_zero {w : List Int} (h : ffault w = 0) : w.length ≤ 60 ∧ ∀ x ∈ w, x ≠ 0 ∧ x ≤ 6 ∧ -6 ≤ x := by
  unfold ffault at h
  by_cases h1 : 60 < w.length
  · rw [if_pos h1] at h; cases h
  · rw [if_neg h1] at h
    by_cases h2 : w.all okL = true
    · refine ⟨by omega, fun x hx => ?_⟩
      have := List.all_eq_true.1 h2 x hx
      simpa [okL] using this
    · rw [if_neg h2] at h; cases h
theorem all_take_succ {w : List Int} {k : Nat} (hk : k < w.length) : (w.take (k + 1)).all okL = ((w.take k).all okL && okL (w.getD k 0)) := by
  rw [List.take_succ_eq_append_getElem hk, List.all_append]
  simp [List.getD, List.getElem?_eq_getElem hk]

end Go.Proofs.Ytoaiblhlpdaeoaa
/- slices.Repeat. -/
namespace Go.Proofs.Ytoaiblhlpdaeoaa
set_option linter.unusedVariables false
set_option linter.unusedSimpArgs false
open Go.RowKit

theorem splice_map {f : Int → Value} (L : List Int) (off : Nat) (cs : List Int) : splice (L.map f) off (cs.map f) = (splice L off cs).map f := by
  simp [splice, List.map_take, List.map_drop]
/-- n elements of the repeated list, then zeros. -/
def repZ (xs : List Int) (k n : Nat) : List Int := (rep xs k).take n ++ List.replicate ((rep xs k).length - n) 0
theorem repZ_length (xs : List Int) (k n : Nat) (h : n ≤ (rep xs k).length) : (repZ xs k n).length = (rep xs k).length := by
  simp [repZ]; omega
theorem repZ_zero (xs : List Int) (k : Nat) : repZ xs k 0 = List.replicate (rep xs k).length 0 := by simp [repZ]
theorem repZ_end (xs : List Int) (k : Nat) : repZ xs k (rep xs k).length = rep xs k := by simp [repZ]
theorem repZ_first (xs : List Int) (k : Nat) (hk : 0 < k) : splice (repZ xs k 0) 0 xs = repZ xs k xs.length := by
  obtain ⟨k, rfl⟩ : ∃ j, k = j + 1 := ⟨k - 1, by omega⟩
  simp [splice, repZ, rep_succ]
theorem repZ_step (xs : List Int) (k q m : Nat) (hq : q ≤ k) (hm : q * xs.length + m ≤ (rep xs k).length) (hmq : m ≤ q * xs.length) :
    splice (repZ xs k (q * xs.length)) (q * xs.length) ((rep xs k).take m) = repZ xs k (q * xs.length + m) := by
  have hl := rep_length xs k
  have hlq := rep_length xs q
  have e0 : rep xs k = rep xs q ++ rep xs (k - q) := by rw [← rep_add]; congr 1; omega
  have e0' : rep xs k = rep xs (k - q) ++ rep xs q := by rw [← rep_add]; congr 1; omega
  have hl2 := rep_length xs (k - q)
  have e1 : (rep xs k).take (q * xs.length) = rep xs q := by rw [e0, List.take_append_of_le_length (by omega), List.take_of_length_le (by omega)]
  have hlen : (rep xs k).length = (rep xs q).length + (rep xs (k - q)).length := by
    conv => lhs; rw [e0]
    exact List.length_append
  have e2 : (rep xs k).take (q * xs.length + m) = rep xs q ++ (rep xs k).take m := by
    conv => lhs; rw [e0]
    rw [List.take_append, List.take_of_length_le (by omega)]
    congr 1
    rw [e0', List.take_append_of_le_length (by omega)]
    congr 1
    omega
  unfold repZ
  rw [e1, e2]
  unfold splice
  rw [List.take_append_of_le_length (by omega), List.take_of_length_le (by omega), List.append_assoc]
  congr 1
  congr 1
  rw [List.drop_append, List.drop_of_length_le (by omega), List.nil_append, List.drop_replicate]
  congr 1
  simp only [List.length_take]
  omega
theorem OwnI.ofRow {w : World} {base g n : Nat} {xs : List Int} (hb : base ≤ g) (h : w.heap[g]? = some (.cells (xs.map (Value.int .i64)).toArray 3 (0, 0))) (hn : xs.length = n) (hs : n ≤ 17592186044416) : OwnI w base (some ⟨g, 0, none⟩) n n xs := by
  refine ⟨⟨by simpa using hn, .inr ⟨g, n, _, rfl, hb, h, Nat.le_refl _, by unfold maxLen; omega, ?_, ?_⟩⟩, hs⟩
  · simp [hn]
  · rw [← hn]; exact List.take_of_length_le (by simp)
theorem il_ofRow {w : World} {g : Nat} {xs : List Int} (h : w.heap[g]? = some (.cells (xs.map (Value.int .i64)).toArray 3 (0, 0))) (j : Nat) (v : Value) (m : Nat) (hv : ((xs.take m).map (Value.int .i64))[j]? = some v) : w.cell? ((⟨g, 0, none⟩ : Addr).add j) = some v := by
  rw [add_zero_block, cell_of_row w g j _ _ _ h]
  have hj := (List.getElem?_eq_some_iff.1 hv).1
  simp only [List.length_map, List.length_take] at hj
  rw [← hv]
  simp [List.getElem?_map, List.getElem?_take, show j < m by omega]
theorem ints_one (xs : List Int) : ∀ v ∈ xs.map (Value.int .i64), v.oneCell' = true := by
  intro v hv
  obtain ⟨x, _, rfl⟩ := List.mem_map.1 hv
  rfl

theorem made_zeros (N : Nat) : madeCells #[.int .i64 0] N = ((List.replicate N (0 : Int)).map (Value.int .i64)).toArray := by
  apply Array.ext
  · simp [size_madeCells]
  · intro i h1 h2
    simp [madeCells, Nat.mod_one]
theorem made_row (w : World) (xs : List Int) (k N : Nat) (h : (rep xs k).length = N) : (w.alloc (.cells (madeCells #[.int .i64 0] N) 3)).heap[w.heap.size]? = some (.cells ((repZ xs k 0).map (Value.int .i64)).toArray 3 (0, 0)) := by
  rw [repZ_zero, h, made_zeros]
  exact heap_alloc_new w _
theorem IL.cells_ {w : World} {A : Option Addr} {n : Nat} {xs : List Int} (h : IL w A n xs) (h0 : 0 < n) : ∃ ad, A = some ad ∧ ∀ j v, (xs.map (Value.int .i64))[j]? = some v → w.cell? (ad.add j) = some v := by
  obtain ⟨ad, e, _, hc⟩ := h.mem h0
  refine ⟨ad, e, fun j v hv => ?_⟩
  have hj := (List.getElem?_eq_some_iff.1 hv).1
  have hl := h.len
  simp only [List.length_map] at hj
  rw [hc j (by omega), ← hv, List.getElem?_map, List.getElem?_eq_getElem hj]
  simp [List.getD, List.getElem?_eq_getElem hj]

set_option maxRecDepth 100000 in
set_option maxHeartbeats 2000000 in
theorem repeat_any (A : Option Addr) (l c k : Nat) (xs : List Int) (w : World) (ha : IL w A l xs) (hlp : 0 < l) (hk : 0 < k) (hs : k * l ≤ 1000000) :
    Calls Try.prog 60 #[.slice A l c, .int .i64 k] w (GivesOwn w (rep xs k)) := by
  obtain ⟨N, hN⟩ : ∃ N, k * l = N := ⟨_, rfl⟩
  have hl := ha.len
  have hNl := rep_length xs k
  rw [hl, hN] at hNl
  have hlN : l ≤ N := by rw [← hN]; exact Nat.le_mul_of_pos_left l hk
  have hkN : k ≤ N := by rw [← hN]; exact Nat.le_mul_of_pos_right k hlp
  rw [hN] at hs
  have HN := hide hN
  have HNL := hide hNl
  have HL := hide hl
  have HA := hide ha
  have HM : Hid (∀ w, Calls Try.prog 101 #[.int .u64 l, .int .u64 k] w fun e w' => e = .returned (.tuple #[.int .u64 0, .int .u64 N]) ∧ w = w') := fun w => by
    refine (bits_Mul l k (by omega) (by omega) w).mono ?_
    rintro e w' ⟨rfl, rfl⟩
    have e1 : l * k = N := by rw [Nat.mul_comm]; exact HN.out
    rw [e1, show N / 18446744073709551616 = 0 by omega, show N % 18446744073709551616 = N by omega]
    exact ⟨rfl, rfl⟩
  obtain ⟨i0, hi0, hz0, hz1, hz2⟩ := info_parts int_info
  have h48 : i0.bytes * N ≤ 281474976710656 := by rw [hz2]; omega
  have HI0 := hide hi0
  have HZ0 := hide hz0
  have HZ1 := hide hz1
  have H48 := hide h48
  clear ha hl hNl hN hi0 hz0 hz1 hz2 h48
  go_enter Try.func60, Try.ntmps60
  have hd1 : decide ((k : Int) < 0) = false := by simp
  have hd2 : decide ((9223372036854775807 : Int) < (N : Int)) = false := decide_eq_false (by omega)
  have HMR := hide (made_row w xs k N HNL.out)
  have HAL := hide (HA.out.alloc (.cells (madeCells #[.int .i64 0] N) 3))
  have HRF : Hid (splice ((repZ xs k 0).map (Value.int .i64)) 0 (xs.map (Value.int .i64)) = (repZ xs k l).map (Value.int .i64)) := by
    rw [splice_map, repZ_first xs k hk, HL.out]
    exact rfl
  have HI3 : Hid ((Try.prog.info? 3).map (·.size) = some 1) := by
    rw [HI0.out]
    exact congrArg some HZ1.out
  have HB0 := hide ((Below.refl w.heap.size w).alloc (Nat.le_refl _) (.cells (madeCells #[.int .i64 0] N) 3))
  have HRL : ∀ n, n ≤ N → Hid (((repZ xs k n).map (Value.int .i64)).length = N) := fun n hn => by
    rw [List.length_map, repZ_length xs k n (by rw [HNL.out]; exact hn)]
    exact HNL.out
  have HXL : Hid ((xs.map (Value.int .i64)).length = l) := by rw [List.length_map]; exact HL.out
  go_wp2_with (first | (go_at_call 101; refine (HM.out _).mono ?_; rintro e w' ⟨rfl, rfl⟩) | (at_make; refine wpList_make_row _ rfl _ _ 22 rfl 3 i0 (.int .i64 0) Try.underlying22 HI0.out HZ0.out HZ1.out rfl .i64 .i64 N rfl rfl H48.out (by omega) ?_) | ((with_reducible show wpList _ _ _ (Oper.mk _ (.call { callee := .builtin .copy, args := _, argTypes := _ }) _ _ _ _ :: _) _ _); go_loud (refine wpList_copy_splice rfl (.tmp 31) (.tmp 32) 22 22 rfl 3 Try.underlying22 HI3.out (some ⟨w.heap.size, 0, none⟩) A N N l c rfl rfl w.heap.size 0 ((repZ xs k 0).map (Value.int .i64)) 3 HMR.out (xs.map (Value.int .i64)) (by rw [HXL.out]; exact (Nat.min_eq_left hlN).symm) (fun _ => ⟨rfl, HAL.out.cells_ hlp⟩) (by rw [HXL.out, (HRL 0 (Nat.zero_le _)).out]; omega) (ints_one _) w.heap.size w HB0.out (Nat.le_refl _) ?_; intro w2 hg2 hb2; rw [HRF.out] at hg2; rw [HXL.out])))
  clear HMR HAL HB0 HRF
  go_loopw [8] (fun nv wr => ∃ q n : Nat, Hid (n < N → n = q * l ∧ q ≤ k) ∧ 0 < n ∧ n ≤ N ∧ nv = .int .i64 n ∧ Hid (wr.heap[w.heap.size]? = some (.cells ((repZ xs k n).map (Value.int .i64)).toArray 3 (0, 0))) ∧ Below w.heap.size w wr) (fun nv _ => N - (intOf nv).toNat)
  case atStart => exact ⟨1, l, fun _ => ⟨(Nat.one_mul l).symm, hk⟩, hlp, hlN, rfl, hg2, hb2⟩
  case round =>
    clear hg2 hb2
    obtain ⟨q, n, HQ, hn0, hnN, rfl, HG, hb⟩ := hrel
    by_cases hlt : n < N
    · obtain ⟨m, hm⟩ : ∃ m, min n (N - n) = m := ⟨_, rfl⟩
      have hm1 : 0 < m := by omega
      have hm2 : m ≤ n := by omega
      have hm3 : n + m ≤ N := by omega
      have HN2 : Hid (n + m < N → n + m = (q + q) * l ∧ q + q ≤ k) := fun h => by
        have e : m = n := by omega
        obtain ⟨e1, e2⟩ := HQ.out hlt
        subst e
        refine ⟨by rw [Nat.add_mul, ← e1], ?_⟩
        have h3 : (q + q) * l < k * l := by rw [Nat.add_mul, ← e1, HN.out]; exact h
        exact Nat.le_of_lt (Nat.lt_of_mul_lt_mul_right h3)
      have HS : Hid (splice ((repZ xs k n).map (Value.int .i64)) n (((rep xs k).take m).map (Value.int .i64)) = (repZ xs k (n + m)).map (Value.int .i64)) := by
        obtain ⟨e1, e2⟩ := HQ.out hlt
        have h2 := repZ_step xs k q m e2 (by rw [HL.out, HNL.out, ← e1]; exact hm3) (by rw [HL.out, ← e1]; exact hm2)
        rw [HL.out, ← e1] at h2
        rw [splice_map, h2]
        exact rfl
      have HCL : Hid ((((rep xs k).take m).map (Value.int .i64)).length = m) := by
        rw [List.length_map, List.length_take, HNL.out]
        exact Nat.min_eq_left (by omega)
      have HSRC : Hid (∀ j v, (((rep xs k).take m).map (Value.int .i64))[j]? = some v → wr.cell? ((⟨w.heap.size, 0, none⟩ : Addr).add j) = some v) := by
        intro j v hv
        refine il_ofRow HG.out j v m ?_
        rw [← hv]
        congr 1
        congr 1
        unfold repZ
        rw [List.take_append_of_le_length (by rw [List.length_take, HNL.out]; omega), List.take_take]
        congr 1
        omega
      have HB := hide hb
      have HMM : Hid (m = Nat.min n (N - n)) := hide hm.symm
      have hne : ¬ N = n := by omega
      have hnN2 : (n : Int) ≤ (N : Int) := by omega
      clear hb hm HQ
      go_wp2_with fail
      go_region_law (refine step_copy_splice rfl (.tmp 41) (.tmp 44) 22 22 rfl 3 Try.underlying22 HI3.out (some ⟨w.heap.size, n, none⟩) (some ⟨w.heap.size, 0, none⟩) (N - n) (N - n) n N (by simp [Act.eval, Act.put, hne]) (by simp [Act.eval, Act.put]) w.heap.size n ((repZ xs k n).map (Value.int .i64)) 3 HG.out (((rep xs k).take m).map (Value.int .i64)) (by rw [HCL.out]; exact HMM.out) (fun _ => ⟨rfl, _, rfl, HSRC.out⟩) (by rw [HCL.out, (HRL n hnN).out]; omega) (ints_one _) w.heap.size w HB.out.drew (Nat.le_refl _) ?_; intro w2 hg2 hb2; rw [HS.out] at hg2; rw [HCL.out])
      show Exit.inBlock 1 _ Exit.normal (Act.put (Act.put _ (some 46) _) (some 8) _) _
      simp only [Act.put, List.setIfInBounds_toArray, List.set_cons_zero, List.set_cons_succ]
      go_roundw
      case rel =>
        have hnum : Value.int .i64 (IntKind.i64.wrap ((n : Int) + (m : Int))) = .int .i64 ((n + m : Nat) : Int) := by
          rw [show IntKind.i64.wrap ((n : Int) + (m : Int)) = ((n + m : Nat) : Int) by rw [IntKind.wrap_i64]; omega]
        exact ⟨_, _, _, _, _, _, _, _, _, _, _, _, _, _, ⟨q + q, n + m, HN2.out, by omega, hm3, hnum, hg2, hb2⟩, rfl⟩
      case measure => simp [intOf, IntKind.wrap_i64]; omega
    · have HE : Hid (OwnI wr w.heap.size (some ⟨w.heap.size, 0, none⟩) N N (rep xs k)) := by
        have e : n = N := by omega
        have h2 := HG.out
        rw [e, ← HNL.out, repZ_end] at h2
        exact OwnI.ofRow (Nat.le_refl _) h2 HNL.out (by omega)
      have HB := hide hb
      clear hb HG HQ
      go_wp2_with fail
      go_ret
      exact ⟨_, _, _, rfl, HE.out, HB.out⟩
end Go.Proofs.Ytoaiblhlpdaeoaa
/- What package laurent's functions are to answer. -/
namespace Go.Proofs.Ytoaiblhlpdaeoaa
set_option linter.unusedVariables false
set_option linter.unusedSimpArgs false
open Go.RowKit

/-- A polynomial as a value. -/
abbrev PV (lo : Int) (A : Option Addr) (n c : Nat) : Value := .agg #[.int .i64 lo, .slice A n c]
/-- The slice lies in memory that w has not. -/
def NewA (w : World) (A : Option Addr) (n : Nat) : Prop := 0 < n → ∀ ad, A = some ad → w.heap.size ≤ ad.block
theorem SL.setCell {w : World} {A : Option Addr} {n c : Nat} {xs : List Int} (h : SL w A n c xs) {b : Nat} (hb : 0 < n → ∀ ad, A = some ad → ad.block ≠ b) (i : Nat) (v : Value) : SL (w.setCell ⟨b, i, none⟩ v) A n c xs :=
  ⟨⟨h.il.len, h.il.small, fun hn => by
    obtain ⟨ad, e, hl, hc⟩ := h.il.mem hn
    refine ⟨ad, e, by simpa using hl, fun j hj => ?_⟩
    rw [← hc j hj]
    exact World.cell?_setCell_other (w := w) (a := ⟨b, i, none⟩) (b := ad.add j) v (by intro e2; exact hb hn ad e (by have := congrArg Addr.block e2; rw [block_of_add] at this; exact this.symm))⟩, h.nil, h.cap⟩
/-- A polynomial and an error. -/
def GivesPE (w : World) (r : LP.PR) (e : Ending) (w' : World) : Prop :=
  ∃ A n c, e = .returned (.tuple #[PV r.2.1 A n c, .int .i64 r.1]) ∧ SL w' A n c r.2.2 ∧ NewA w A n ∧ Below w.heap.size w w'
/-- A polynomial. -/
def GivesP (w : World) (lo : Int) (cs : List Int) (e : Ending) (w' : World) : Prop :=
  ∃ A n c, e = .returned (PV lo A n c) ∧ SL w' A n c cs ∧ NewA w A n ∧ Below w.heap.size w w'

/-- Package laurent, as the document asks. -/
structure PolyC : Prop where
  check : ∀ (la : Int) (A : Option Addr) (n c : Nat) (xs : List Int) (w : World), SL w A n c xs → (Lit.int .i64 la).wf = true → Calls Try.prog 84 #[PV la A n c] w fun e w' => e = .returned (.int .i64 (LP.pfl la xs)) ∧ Below w.heap.size w w'
  add : ∀ (la : Int) (A : Option Addr) (n c : Nat) (xs : List Int) (lb : Int) (B : Option Addr) (m d : Nat) (ys : List Int) (w : World), SL w A n c xs → SL w B m d ys → (Lit.int .i64 la).wf = true → (Lit.int .i64 lb).wf = true → Calls Try.prog 80 #[PV la A n c, PV lb B m d] w (GivesPE w (LP.addR la xs lb ys))
  mul : ∀ (la : Int) (A : Option Addr) (n c : Nat) (xs : List Int) (lb : Int) (B : Option Addr) (m d : Nat) (ys : List Int) (w : World), SL w A n c xs → SL w B m d ys → (Lit.int .i64 la).wf = true → (Lit.int .i64 lb).wf = true → Calls Try.prog 126 #[PV la A n c, PV lb B m d] w (GivesPE w (LP.mulR la xs lb ys))

/-- The result of a function whose result is a polynomial in a block. -/
theorem results_poly {fn : Func} {t : Tmp} {b : Nat} {v0 v1 : Value} {w : World} (h : fn.results = #[.cell t 54]) (tmps : Array Value) (ht : tmps.getD t undef = .pointer (some ⟨b, 0, none⟩)) (hb : Blk w b 54 #[v0, v1]) :
    (results fn tmps).run Try.prog w = .ok (.agg #[v0, v1]) w := by
  have h0 := hb.cell 0
  have h1 := hb.cell 1
  simp at h0 h1
  have ht2 : tmps[t]?.getD undef = .pointer (some ⟨b, 0, none⟩) := by simpa using ht
  simp [results, h, ht2, go_sem, h0, h1, Result.andThen]

end Go.Proofs.Ytoaiblhlpdaeoaa
