/- Several texts in one. -/
import Derived.Test.YtndgffiihbdppaaBase1
import Derived.Test.YtndgffiihbdppaaProg
import Derived.WalkKit
import Derived.Deep.QuietTactic
import Derived.BigQuiet
import Derived.WalkSpells
import Derived.WalkLawsBesides
import Derived.Outline
import Derived.Handy
import Derived.Deep.DeepCutAuto
import Derived.Laws.BitsAllLaws
import Derived.Laws.EntriesVeiled
/- Small functions over permutations: compose, identity, countSmaller, Below. -/
namespace Go.Proofs.Ytndgffiihbdppaa
set_option linter.unusedVariables false
set_option linter.unusedSimpArgs false
open Go.RowKit

theorem int_info : (Try.prog.info? 3).map (fun i => (i.zero, i.size, i.bytes)) = some (some (.int .i64 0), 1, 8) := by kernel_rfl

/-- The result of a function that makes a slice. -/
def GivesOwn (w : World) (xs : List Int) (e : Ending) (w' : World) : Prop :=
  ∃ A n c, e = .returned (.slice A n c) ∧ OwnI w' w.heap.size A n c xs ∧ Below w.heap.size w w'

end Go.Proofs.Ytndgffiihbdppaa
/- identity, Row, Below, countSmaller, Index. -/
namespace Go.Proofs.Ytndgffiihbdppaa
set_option linter.unusedVariables false
set_option linter.unusedSimpArgs false
open Go.RowKit

set_option maxHeartbeats 1000000 in
theorem row_any (n : Nat) (w : World) (hn : n ≤ 1000000) :
    Calls Try.prog 70 #[.int .i64 n] w (GivesOwn w (zs (List.range n))) := by
  obtain ⟨i0, hi0, hz0, hz1, hz2⟩ := info_parts int_info
  go_enter Try.func70, Try.ntmps70
  go_wp2_with (at_make; refine wpList_make_full _ rfl _ _ 22 rfl w.heap.size 3 i0 (.int .i64 0) 1 Try.underlying22 hi0 hz0 hz1 .i64 .i64 _ _ n rfl rfl rfl rfl (by rw [hz2]; omega) (by unfold maxLen; omega) (Nat.le_refl _) ?_; intro w1 hown1 hg1)
  have hB1 : Below w.heap.size w w1 := (Below.refl _ _).grown hg1 (Nat.le_refl _) (by intro k hk; cases hk)
  have hw1 := OwnI.zero (z := #[]) hown1 (by omega)
  clear hown1 hg1
  go_loopw [9] (fun i wr => ∃ k : Nat, k ≤ n ∧ i = .int .i64 k ∧ OwnI wr w.heap.size (some ⟨w.heap.size, 0, none⟩) n n (fillN (fun j => (j : Int)) n k) ∧ Below w.heap.size w wr) (fun i _ => n - (intOf i).toNat)
  case atStart => exact ⟨0, Nat.zero_le _, rfl, by rw [fillN_zero]; exact hw1, hB1⟩
  case round =>
    obtain ⟨k, hk, rfl, hown, hnx⟩ := hrel
    clear hw1 hB1
    by_cases hlt : k < n
    · have hcell := hown.cell hlt
      have hfr := hown.frozen k
      have HS := hide (hown.set_ k (k : Int))
      clear hown
      generalize hz : (fillN (fun j => (j : Int)) n k).getD k 0 = z at *
      clear hz
      go_wp2
      go_roundw
      case rel =>
        refine ⟨k + 1, by omega, by go_num, ?_, hnx.setCell (Nat.le_refl _) _⟩
        have := HS.out
        rw [fillN_set (fun j => (j : Int))] at this
        exact this
      case measure => simp [intOf]; omega
    · have HF : Hid (fillN (fun j => (j : Int)) n k = zs (List.range n)) := by
        obtain rfl : k = n := by omega
        exact fillN_full (by simp [zs]) (fun j hj => by rw [zs_getD]; simp [List.getD, hj])
      go_wp2
      go_ret
      refine ⟨_, _, _, rfl, ?_, hnx⟩
      rw [HF.out] at hown
      exact hown

end Go.Proofs.Ytndgffiihbdppaa
/- slices.Delete of one element of a slice that the call owns. -/
namespace Go.Proofs.Ytndgffiihbdppaa
set_option linter.unusedVariables false
set_option linter.unusedSimpArgs false
open Go.RowKit

/-- ys written over xs from o on. -/
def setMany (xs : List Int) (o : Nat) : List Int → List Int
  | [] => xs
  | y :: ys => setMany (xs.set o y) (o + 1) ys
theorem setMany_length : ∀ (ys xs : List Int) (o : Nat), (setMany xs o ys).length = xs.length
  | [], _, _ => rfl
  | y :: ys, xs, o => by rw [setMany, setMany_length ys]; simp
theorem setMany_getD : ∀ (ys xs : List Int) (o j : Nat), o + ys.length ≤ xs.length → (setMany xs o ys).getD j 0 = if o ≤ j ∧ j < o + ys.length then ys.getD (j - o) 0 else xs.getD j 0
  | [], xs, o, j, _ => by rw [setMany, if_neg (by simp)]
  | y :: ys, xs, o, j, h => by
    simp only [List.length_cons] at h
    rw [setMany, setMany_getD ys _ _ _ (by simp; omega)]
    by_cases h1 : o + 1 ≤ j ∧ j < o + 1 + ys.length
    · rw [if_pos h1, if_pos (by simp; omega)]
      rw [show j - o = (j - (o + 1)) + 1 from by omega]
      simp [List.getD]
    · rw [if_neg h1]
      by_cases h2 : j = o
      · subst h2
        rw [if_pos (by simp)]
        simp [List.getD, show j < xs.length by omega]
      · rw [if_neg (by simp; omega)]
        have : ¬ o = j := fun e => h2 e.symm
        simp [List.getD, List.getElem?_set, this]

section
variable {w w' : World} {base g n c : Nat} {xs : List Int}
end

/-- The list without its element i. -/
def without (xs : List Int) (i : Nat) : List Int := xs.take i ++ xs.drop (i + 1)
theorem without_length {xs : List Int} {i : Nat} (h : i < xs.length) : (without xs i).length = xs.length - 1 := by simp [without]; omega
theorem deleted {xs : List Int} {n i : Nat} (hl : xs.length = n) (hi : i < n) : ((setMany xs i (xs.drop (i + 1))).set (n - 1) 0).take (n - 1) = without xs i := by
  have hx : (setMany xs i (xs.drop (i + 1))).length = n := by rw [setMany_length, hl]
  apply List.ext_getElem?
  intro j
  by_cases hj : j < n - 1
  · rw [List.getElem?_take, if_pos hj, List.getElem?_set, if_neg (by omega)]
    have h1 := setMany_getD (xs.drop (i + 1)) xs i j (by simp; omega)
    have h2 : ((setMany xs i (xs.drop (i + 1)))[j]?) = some ((setMany xs i (xs.drop (i + 1))).getD j 0) := by
      simp [List.getD, List.getElem?_eq_getElem (show j < (setMany xs i (xs.drop (i + 1))).length by omega)]
    rw [h2, h1]
    have h3 : (without xs i)[j]? = some ((without xs i).getD j 0) := by
      simp [List.getD, List.getElem?_eq_getElem (show j < (without xs i).length by rw [without_length (by omega)]; omega)]
    rw [h3]
    congr 1
    by_cases hji : j < i
    · rw [if_neg (by omega)]
      simp only [without, List.getD, List.getElem?_append, List.length_take, List.getElem?_take]
      rw [if_pos (by omega), if_pos hji]
    · rw [if_pos (by simp; omega)]
      simp only [without, List.getD, List.getElem?_append, List.length_take, List.getElem?_drop]
      rw [if_neg (by omega), show min i xs.length = i from by omega]
  · rw [List.getElem?_eq_none (by simp; omega), List.getElem?_eq_none (by rw [without_length (by omega)]; omega)]

end Go.Proofs.Ytndgffiihbdppaa
/- slices.Index, and timbref1.Number. -/
namespace Go.Proofs.Ytndgffiihbdppaa
set_option linter.unusedVariables false
set_option linter.unusedSimpArgs false
open Go.RowKit

theorem idxOf_at : ∀ {us : List Nat} {x k : Nat}, (∀ j, j < k → us.getD j 0 ≠ x) → k < us.length → us.getD k 0 = x → us.idxOf x = k
  | u :: t, x, 0, _, _, h => by
    have h' : u = x := h
    subst h'
    simp [List.idxOf_cons]
  | u :: t, x, k + 1, h1, h2, h3 => by
    have h0 : u ≠ x := h1 0 (by omega)
    have ih := idxOf_at (us := t) (x := x) (k := k) (fun j hj => by
      have := h1 (j + 1) (by omega)
      simpa [List.getD] using this) (by simpa using h2) (by simpa [List.getD] using h3)
    have hb : (u == x) = false := by simpa using h0
    rw [List.idxOf_cons, ih, hb]
    rfl
theorem idx_sorted : ∀ {us : List Nat} {x : Nat}, Sorted us → x ∈ us → us.idxOf x = cntN us x
  | u :: t, x, hs, hx => by
    have hs' := List.pairwise_cons.1 hs
    by_cases h : x = u
    · subst h
      rw [cntN_self, cnt_zero (fun y hy => Nat.le_of_lt (hs'.1 y hy))]
      simp [List.idxOf_cons]
    · have hxt : x ∈ t := by
        rcases List.mem_cons.1 hx with e | e
        · exact absurd e h
        · exact e
      rw [cntN_cons, if_pos (hs'.1 x hxt), ← idx_sorted hs'.2 hxt, List.idxOf_cons]
      have hb : (u == x) = false := by simp; exact fun e => h e.symm
      rw [hb]
      rfl
theorem idxOf_lt {us : List Nat} {x : Nat} (h : x ∈ us) : us.idxOf x < us.length := List.idxOf_lt_length_iff.2 h

set_option maxHeartbeats 1000000 in
theorem index_mem (A : Option Addr) (n c : Nat) (us : List Nat) (x : Nat) (w : World) (ha : IL w A n (zs us)) (hx : x ∈ us) :
    Calls Try.prog 46 #[.slice A n c, .int .i64 x] w fun e w' => e = .returned (.int .i64 (us.idxOf x : Nat)) ∧ w = w' := by
  have hna := ha.small
  have HL : Hid (us.length = n) := by have := ha.len; rwa [zs_length] at this
  have HX := hide hx
  clear hx
  go_enter Try.func46, Try.ntmps46
  go_wp2
  go_loop [8] (fun i => ∃ k : Nat, k ≤ n ∧ i = .int .i64 k ∧ Hid (∀ j, j < k → us.getD j 0 ≠ x)) (fun i => n - (intOf i).toNat)
  case atStart => exact ⟨0, Nat.zero_le _, rfl, fun j hj => by omega⟩
  case round =>
    obtain ⟨k, hk, rfl, hne⟩ := hrel
    by_cases hlt : k < n
    · obtain ⟨ad, rfl, hca⟩ := ha.at_ hlt
      rw [zs_getD] at hca
      by_cases he : us.getD k 0 = x
      · have HE : Hid (us.idxOf x = k) := idxOf_at hne.out (by have := HL.out; omega) he
        rw [he] at hca
        clear he
        go_wp2
        go_ret
        rw [HE.out]
        exact ⟨rfl, rfl⟩
      · have HN : Hid (∀ j, j < k + 1 → us.getD j 0 ≠ x) := by
          intro j hj
          rcases Nat.lt_or_ge j k with h1 | h1
          · exact hne.out j h1
          · obtain rfl : j = k := by omega
            exact he
        have hb : ((x : Int) == ((us.getD k 0 : Nat) : Int)) = false := by
          have : ¬ (x : Int) = ((us.getD k 0 : Nat) : Int) := fun e => he (by omega)
          simpa using this
        clear he
        generalize us.getD k 0 = y at *
        go_wp2
        go_round
        case rel => exact ⟨k + 1, by omega, by go_num, HN⟩
        case measure => simp [intOf]; omega
    · exfalso
      obtain ⟨j, hj, hj2⟩ := List.mem_iff_getElem.1 HX.out
      exact hne.out j (by have := HL.out; omega) (by rw [getD_eq hj]; exact hj2)

/-- What timbref1.Number's loop knows. -/
structure NumSt (a us : List Nat) (k : Nat) : Prop where
  perm : us.Perm (a.drop k)
  sorted : Sorted us
theorem NumSt.step {a us : List Nat} {k : Nat} (h : NumSt a us k) (hk : k < a.length) :
    a.getD k 0 ∈ us ∧ us.length = a.length - k ∧ us.idxOf (a.getD k 0) = cntLt ((zs a).drop k) (a.getD k 0 : Nat) ∧ NumSt a (us.take (us.idxOf (a.getD k 0)) ++ us.drop (us.idxOf (a.getD k 0) + 1)) (k + 1) := by
  have hd : a.drop k = a.getD k 0 :: a.drop (k + 1) := by rw [getD_eq hk, ← List.drop_eq_getElem_cons hk]
  have hm : a.getD k 0 ∈ us := h.perm.mem_iff.2 (by rw [hd]; exact List.mem_cons_self ..)
  have hi : us.idxOf (a.getD k 0) = cntN us (a.getD k 0) := idx_sorted h.sorted hm
  have hl : us.length = a.length - k := by rw [h.perm.length_eq, List.length_drop]
  refine ⟨hm, hl, ?_, ?_, sorted_pick h.sorted _⟩
  · rw [hi, zs_drop, cntLt_zs, cntN_perm h.perm]
  · have hp := perm_pick (idxOf_lt hm)
    have hx : us.getD (us.idxOf (a.getD k 0)) 0 = a.getD k 0 := by rw [hi]; exact sorted_at h.sorted hm
    rw [hx] at hp
    have h2 := hp.trans h.perm
    rw [hd] at h2
    exact h2.cons_inv

end Go.Proofs.Ytndgffiihbdppaa
/- timbref1: After, Back, Times; slices.Clone. -/
namespace Go.Proofs.Ytndgffiihbdppaa
set_option linter.unusedVariables false
set_option linter.unusedSimpArgs false
open Go.RowKit

theorem OwnI.nil {w : World} {base n c : Nat} {A : Option Addr} {xs : List Int} (h : OwnI w base A n c xs) : A = none → n = 0 ∧ c = 0 := by
  rintro rfl
  rcases h.own.2 with ⟨hv, h0⟩ | ⟨g, cap, cur, hv, _⟩
  · injection hv with _ _ hc
    exact ⟨h0, hc⟩
  · injection hv with hv
    cases hv

/-- A permutation of degree k. -/
def PN' (k : Nat) (a : List Nat) : Prop := isP a ∧ a.length = k

/-- The state of the loop of Times. -/
structure TiSt (n : Nat) (T o b : List Nat) (m : Nat) : Prop where
  po : PN' n o
  pb : PN' n b
  val : comp o (powN b m) = T
theorem TiSt.odd {n m : Nat} {T o b : List Nat} (h : TiSt n T o b m) (hm : m % 2 = 1) : TiSt n T (comp o b) (comp b b) (m / 2) := by
  refine ⟨⟨comp_isP h.po.1 h.pb.1 (h.po.2.trans h.pb.2.symm), by rw [comp_length]; exact h.po.2⟩, ⟨comp_isP h.pb.1 h.pb.1 rfl, by rw [comp_length]; exact h.pb.2⟩, ?_⟩
  have := times_step (m := m) h.pb.1 h.po.1 h.po.2 h.pb.2
  rw [if_pos hm] at this
  rw [← this]
  exact h.val
theorem TiSt.even {n m : Nat} {T o b : List Nat} (h : TiSt n T o b m) (hm : ¬ m % 2 = 1) : TiSt n T o (comp b b) (m / 2) := by
  refine ⟨h.po, ⟨comp_isP h.pb.1 h.pb.1 rfl, by rw [comp_length]; exact h.pb.2⟩, ?_⟩
  have := times_step (m := m) h.pb.1 h.po.1 h.po.2 h.pb.2
  rw [if_neg hm] at this
  rw [← this]
  exact h.val
theorem TiSt.done {n : Nat} {T o b : List Nat} (h : TiSt n T o b 0) : o = T := by
  have := h.val
  rw [powN_zero, comp_range (fun x hx => by have := h.po.1.1 x hx; have := h.po.2; have := h.pb.2; omega)] at this
  exact this
end Go.Proofs.Ytndgffiihbdppaa
/- Slices of integers, and slices of slices of integers, with what a nil slice is. -/
namespace Go.Proofs.Ytndgffiihbdppaa
set_option linter.unusedVariables false
set_option linter.unusedSimpArgs false
open Go.RowKit

/-- A slice that reads as xs. -/
structure SL (w : World) (A : Option Addr) (n c : Nat) (xs : List Int) : Prop where
  il : IL w A n xs
  nil : A = none → n = 0 ∧ c = 0
  cap : n ≤ c
theorem SL.below {w w' : World} {A : Option Addr} {n c : Nat} {xs : List Int} (h : SL w A n c xs) (hb : Below w.heap.size w w') : SL w' A n c xs := ⟨h.il.below hb, h.nil, h.cap⟩
theorem SL.nil_ (w : World) : SL w none 0 0 [] := ⟨IL.nil_ w, fun _ => ⟨rfl, rfl⟩, Nat.le_refl _⟩
theorem OwnI.sl {w : World} {base n c : Nat} {A : Option Addr} {xs : List Int} (h : OwnI w base A n c xs) : SL w A n c xs := ⟨h.il, h.nil, h.cap⟩
theorem SL.lit (w : World) (xs : List Int) (hs : xs.length ≤ 1000) {cs : Array Value} (hc : cs = (xs.map (Value.int .i64)).toArray) {m : Nat} (hm : xs.length = m) : SL (w.alloc (.cells cs 3)) (some ⟨w.heap.size, 0, none⟩) m m xs :=
  ⟨IL.lit w xs (by omega) hc hm, fun h => (by cases h), Nat.le_refl _⟩
/-- A slice of slices that reads as xss. -/
structure SLL (w : World) (A : Option Addr) (n c : Nat) (xss : List (List Int)) : Prop where
  len : xss.length = n
  small : n ≤ 17592186044416
  nil : A = none → n = 0 ∧ c = 0
  cap : n ≤ c
  mem : 0 < n → ∃ ad, A = some ad ∧ ad.block < w.heap.size ∧ ∀ j, j < n → ∃ B m d, w.cell? (ad.add j) = some (.slice B m d) ∧ SL w B m d (xss.getD j [])
theorem SLL.ill {w : World} {A : Option Addr} {n c : Nat} {xss : List (List Int)} (h : SLL w A n c xss) : ILL w A n xss :=
  ⟨h.len, h.small, fun h0 => by
    obtain ⟨ad, e, hl, hc⟩ := h.mem h0
    exact ⟨ad, e, hl, fun j hj => by
      obtain ⟨B, m, d, h1, h2⟩ := hc j hj
      exact ⟨B, m, d, h1, h2.il⟩⟩⟩
theorem SLL.at_ {w : World} {A : Option Addr} {n c k : Nat} {xss : List (List Int)} (h : SLL w A n c xss) (hk : k < n) : ∃ ad B m d, A = some ad ∧ w.cell? (ad.add k) = some (.slice B m d) ∧ SL w B m d (xss.getD k []) := by
  obtain ⟨ad, e, _, hc⟩ := h.mem (by omega)
  obtain ⟨B, m, d, h1, h2⟩ := hc k hk
  exact ⟨ad, B, m, d, e, h1, h2⟩
theorem SLL.below {w w' : World} {A : Option Addr} {n c : Nat} {xss : List (List Int)} (h : SLL w A n c xss) (hb : Below w.heap.size w w') : SLL w' A n c xss :=
  ⟨h.len, h.small, h.nil, h.cap, fun hn => by
    obtain ⟨ad, e, hl, hc⟩ := h.mem hn
    refine ⟨ad, e, Nat.lt_of_lt_of_le hl hb.size, fun j hj => ?_⟩
    obtain ⟨B, m, d, h1, h2⟩ := hc j hj
    exact ⟨B, m, d, (hb.cell (p := ad.add j) (by rw [block_of_add]; exact hl)).trans h1, h2.below hb⟩⟩
theorem SLL.nil_ (w : World) : SLL w none 0 0 [] := ⟨rfl, by omega, fun _ => ⟨rfl, rfl⟩, Nat.le_refl _, fun h => absurd h (by omega)⟩
/-- A literal of slices. -/
theorem SLL.lit {w : World} {vs : List Value} {xss : List (List Int)} (hl : vs.length = xss.length) (hs : xss.length ≤ 1000) (h : ∀ j, j < xss.length → ∃ B m d, vs[j]? = some (.slice B m d) ∧ SL w B m d (xss.getD j [])) {cs : Array Value} (hc : cs = vs.toArray) {m : Nat} (hm : xss.length = m) :
    SLL (w.alloc (.cells cs 22)) (some ⟨w.heap.size, 0, none⟩) m m xss := by
  subst hc
  refine ⟨hm, by omega, fun h => (by cases h), Nat.le_refl _, fun _ => ⟨⟨w.heap.size, 0, none⟩, rfl, by simp, fun j hj => ?_⟩⟩
  obtain ⟨B, n, d, h1, h2⟩ := h j (by omega)
  refine ⟨B, n, d, ?_, h2.below ((Below.refl _ _).alloc (Nat.le_refl _) _)⟩
  rw [show (⟨w.heap.size, 0, none⟩ : Addr).add j = ⟨w.heap.size, j, none⟩ by unfold Addr.add; split <;> simp_all, (Blk.new w 22 vs.toArray).cell j]
  simpa using h1
theorem SLL.of_rows {w : World} {base n c : Nat} {A : Option Addr} {vs : List Value} {xss : List (List Int)} (h : OwnV w base A n c vs) (hr : RowsI w base vs xss) : SLL w A n c xss := by
  have hl := h.len
  have hcap : (A = none → n = 0 ∧ c = 0) ∧ n ≤ c := by
    rcases h.own.2 with ⟨hv, h0⟩ | ⟨g, cap, cur, hv, _, _, hnc, _⟩
    · simp only [Value.slice.injEq] at hv
      exact ⟨fun _ => ⟨hv.2.1, hv.2.2⟩, by omega⟩
    · simp only [Value.slice.injEq, true_and] at hv
      exact ⟨fun e => (by rw [e] at hv; exact absurd hv.1 (by simp)), by omega⟩
  refine ⟨by rw [← hr.len]; exact hl, by have := h.small; omega, hcap.1, hcap.2, fun hn => ?_⟩
  obtain ⟨g, rfl, _⟩ := h.cellAt hn
  refine ⟨⟨g, 0, none⟩, rfl, (h.lt g rfl).2, fun j hj => ?_⟩
  obtain ⟨g', e, hc⟩ := h.cellAt hj
  injection e with e
  injection e with e
  subst e
  obtain ⟨B, m, d, h1, h2⟩ := hr.row j (by omega)
  exact ⟨B, m, d, by rw [show (⟨g, 0, none⟩ : Addr).add j = ⟨g, j, none⟩ by unfold Addr.add; split <;> simp_all, hc, h1], h2.sl⟩
end Go.Proofs.Ytndgffiihbdppaa
/- slices.Equal at integers. -/
namespace Go.Proofs.Ytndgffiihbdppaa
set_option linter.unusedVariables false
set_option linter.unusedSimpArgs false
open Go.RowKit

theorem eq_take_ne {xs ys : List Int} {k : Nat} (hl : xs.length = ys.length) (hk : k < xs.length) (h : xs.getD k 0 ≠ ys.getD k 0) : xs ≠ ys := by
  rintro rfl; exact h rfl
theorem eq_of_getD {xs ys : List Int} (hl : xs.length = ys.length) (h : ∀ j, j < xs.length → xs.getD j 0 = ys.getD j 0) : xs = ys := by
  apply List.ext_getElem hl
  intro i h1 h2
  have := h i h1
  simpa [List.getD, List.getElem?_eq_getElem h1, List.getElem?_eq_getElem h2] using this

theorem same_succ {xs ys : List Int} {k : Nat} (h : ∀ j, j < k → xs.getD j 0 = ys.getD j 0) (hk : xs.getD k 0 = ys.getD k 0) : ∀ j, j < k + 1 → xs.getD j 0 = ys.getD j 0 := fun j hj => by
  rcases Nat.lt_or_ge j k with h1 | h1
  · exact h j h1
  · obtain rfl : j = k := by omega
    exact hk

set_option maxHeartbeats 1000000 in
theorem equal_any (A B : Option Addr) (n m c d : Nat) (xs ys : List Int) (w : World) (ha : IL w A n xs) (hb : IL w B m ys) :
    Calls Try.prog 36 #[.slice A n c, .slice B m d] w fun e w' => e = .returned (.bool (eqB xs ys)) ∧ Below w.heap.size w w' := by
  have hna := ha.small
  have hnb := hb.small
  have hla := ha.len
  have hlb := hb.len
  have HL : Hid (xs.length = n ∧ ys.length = m) := ⟨hla, hlb⟩
  clear hla hlb
  by_cases hnm : n = m
  · subst hnm
    go_enter Try.func36, Try.ntmps36
    go_wp2
    go_loopw [13] (fun i wr => ∃ k : Nat, k ≤ n ∧ i = .int .i64 k ∧ Hid (∀ j, j < k → xs.getD j 0 = ys.getD j 0) ∧ Below w.heap.size w wr) (fun i _ => n - (intOf i).toNat)
    case atStart => exact ⟨0, Nat.zero_le _, rfl, (fun j hj => absurd hj (by omega)), Below.refl _ _⟩
    case round =>
      obtain ⟨k, hk, rfl, hsame, hnx⟩ := hrel
      have ha' := ha.below hnx
      have hb' := hb.below hnx
      by_cases hlt : k < n
      · obtain ⟨ad, rfl, hca⟩ := ha'.at_ hlt
        obtain ⟨bd, rfl, hcb⟩ := hb'.at_ hlt
        clear ha hb ha' hb'
        by_cases hne : xs.getD k 0 = ys.getD k 0
        · have hbne : ((xs.getD k 0) != (ys.getD k 0)) = false := by rw [hne]; simp
          have HS := hide (same_succ hsame.out hne)
          clear hne hsame
          generalize xs.getD k 0 = x at *
          generalize ys.getD k 0 = y at *
          go_wp2
          go_quiet (fail)
          go_wp2
          go_roundw
          case rel => exact ⟨k + 1, by omega, by go_num, HS, below_drewN hnx _⟩
          case measure => simp [intOf]; omega
        · have hbne : ((xs.getD k 0) != (ys.getD k 0)) = true := by simpa using hne
          have HE := hide (eqB_false (eq_take_ne (HL.out.1.trans HL.out.2.symm) (by have := HL.out.1; omega) hne))
          clear hne hsame
          generalize xs.getD k 0 = x at *
          generalize ys.getD k 0 = y at *
          go_wp2
          go_quiet (fail)
          go_wp2
          go_ret
          rw [HE.out]
          exact ⟨rfl, below_drewN hnx _⟩
      · have HE := hide (eqB_true (eq_of_getD (HL.out.1.trans HL.out.2.symm) (fun j hj => hsame.out j (by have := HL.out.1; omega))))
        go_wp2
        go_ret
        rw [HE.out]
        exact ⟨rfl, hnx⟩
  · have HE := hide (eqB_false (xs := xs) (ys := ys) (fun h => hnm (by have := HL.out.1; have := HL.out.2; subst h; omega)))
    have hb1 : ((n : Int) != (m : Int)) = true := by simp; omega
    clear ha hb
    go_enter Try.func36, Try.ntmps36
    go_wp2
    go_ret
    rw [HE.out]
    exact ⟨rfl, Below.refl _ _⟩
end Go.Proofs.Ytndgffiihbdppaa
/- What package laurent's functions are to answer. -/
namespace Go.Proofs.Ytndgffiihbdppaa
set_option linter.unusedVariables false
set_option linter.unusedSimpArgs false
open Go.RowKit

theorem SL.setCell {w : World} {A : Option Addr} {n c : Nat} {xs : List Int} (h : SL w A n c xs) {b : Nat} (hb : 0 < n → ∀ ad, A = some ad → ad.block ≠ b) (i : Nat) (v : Value) : SL (w.setCell ⟨b, i, none⟩ v) A n c xs :=
  ⟨⟨h.il.len, h.il.small, fun hn => by
    obtain ⟨ad, e, hl, hc⟩ := h.il.mem hn
    refine ⟨ad, e, by simpa using hl, fun j hj => ?_⟩
    rw [← hc j hj]
    exact World.cell?_setCell_other (w := w) (a := ⟨b, i, none⟩) (b := ad.add j) v (by intro e2; exact hb hn ad e (by have := congrArg Addr.block e2; rw [block_of_add] at this; exact this.symm))⟩, h.nil, h.cap⟩
end Go.Proofs.Ytndgffiihbdppaa
/- Sums and products of small polynomials fit. -/
namespace Go.Proofs.Ytndgffiihbdppaa
set_option linter.unusedVariables false
set_option linter.unusedSimpArgs false
open Go.RowKit
namespace LP
/-- A right polynomial. -/
def Rt (x : LP) : Prop := pfl (canon x).1 (canon x).2 = 0
theorem Rt.wf {x : LP} (h : Rt x) : (Lit.int .i64 (canon x).1).wf = true := by
  obtain ⟨_, h1, h2, _⟩ := pfl_zero h
  have h3 : IntKind.i64.min = -9223372036854775808 := by decide
  simp [Lit.wf, h3]
  omega
end LP
end Go.Proofs.Ytndgffiihbdppaa
/- Free derivatives: exponents, the derivative of a word, the rule of a product, and t^e - 1 as a sum of derivatives. -/
namespace Go.Proofs.Ytndgffiihbdppaa
set_option linter.unusedVariables false
set_option linter.unusedSimpArgs false
namespace LP

theorem sign_le (x : Int) : (Int.sign x).natAbs ≤ 1 := by
  rcases Int.lt_trichotomy x 0 with h | h | h
  · rw [Int.sign_eq_neg_one_of_neg h]; decide
  · subst h; decide
  · rw [Int.sign_eq_one_of_pos h]; decide
/-- The derivative of a letter. -/
def dx (i x : Int) : LP := if x = i then 1 else if x = -i then term (-1) (-1) else 0
/-- The derivative of a word. -/
def foxT (i : Int) : List Int → LP
  | [] => 0
  | x :: w => dx i x + term (Int.sign x) 1 * foxT i w
theorem Sm.term (e c : Int) {l h : Int} {B : Nat} (h1 : l ≤ e) (h2 : e ≤ h) (h3 : c.natAbs ≤ B) : Sm (term e c) l h B :=
  ⟨fun k hk => by
    rw [co_term] at hk
    by_cases he : e = k
    · omega
    · rw [if_neg he] at hk; exact absurd rfl hk,
  fun k => by
    rw [co_term]
    split
    · exact h3
    · exact Nat.zero_le _⟩
theorem Sm.zero {l h : Int} {B : Nat} : Sm 0 l h B := ⟨fun k hk => absurd (co_zero k) hk, fun k => by rw [co_zero]; exact Nat.zero_le _⟩
/-- t - 1. -/
def less : LP := term 1 1 + -1
/-- The sum of the first derivatives times t - 1. -/
def part (w : List Int) : Nat → LP
  | 0 => 0
  | k + 1 => part w k + foxT ((k : Int) + 1) w * less
end LP
end Go.Proofs.Ytndgffiihbdppaa
/- Laurent polynomials as short sums of terms: exponents within E, absolute values of coefficients that add up to at most V. -/
namespace Go.Proofs.Ytndgffiihbdppaa
set_option linter.unusedVariables false
set_option linter.unusedSimpArgs false
namespace LP

def sumA : List Tm → Nat
  | [] => 0
  | p :: l => p.2.natAbs + sumA l
theorem sumA_append : ∀ a b : List Tm, sumA (a ++ b) = sumA a + sumA b
  | [], b => by simp [sumA]
  | p :: a, b => by
    show p.2.natAbs + sumA (a ++ b) = p.2.natAbs + sumA a + sumA b
    rw [sumA_append a b, Nat.add_assoc]
theorem sumA_scale (e c : Int) : ∀ l : List Tm, sumA (scaleT e c l) = c.natAbs * sumA l
  | [] => rfl
  | p :: l => by
    show (c * p.2).natAbs + sumA (scaleT e c l) = c.natAbs * (p.2.natAbs + sumA l)
    rw [sumA_scale e c l, Nat.mul_add, Int.natAbs_mul]
theorem sumA_mul (b : List Tm) : ∀ a : List Tm, sumA (mulT a b) = sumA a * sumA b
  | [] => by
    show 0 = 0 * sumA b
    rw [Nat.zero_mul]
  | p :: a => by
    rw [mulT_cons, sumA_append, sumA_scale, sumA_mul b a]
    show _ = (p.2.natAbs + sumA a) * sumA b
    rw [Nat.add_mul]
theorem coefT_sumA (k : Int) : ∀ l : List Tm, (coefT l k).natAbs ≤ sumA l
  | [] => Nat.le_refl _
  | p :: l => by
    have h := coefT_sumA k l
    show ((if p.1 = k then p.2 else 0) + coefT l k).natAbs ≤ p.2.natAbs + sumA l
    split <;> omega

/-- A short sum of terms. -/
def N1 (x : LP) (E V : Nat) : Prop := ∃ l : List Tm, mk l = x ∧ (∀ p ∈ l, p.1.natAbs ≤ E) ∧ sumA l ≤ V
theorem N1.mono {x : LP} {E V E' V' : Nat} (h : N1 x E V) (h1 : E ≤ E') (h2 : V ≤ V') : N1 x E' V' := by
  obtain ⟨l, e, hk, hv⟩ := h
  exact ⟨l, e, fun p hp => Nat.le_trans (hk p hp) h1, Nat.le_trans hv h2⟩
theorem N1.zero : N1 0 0 0 := ⟨[], rfl, fun p hp => by simp at hp, Nat.le_refl _⟩
theorem N1.term (e c : Int) : N1 (LP.term e c) e.natAbs c.natAbs := ⟨[(e, c)], rfl, fun p hp => by simp at hp; subst hp; exact Nat.le_refl _, by simp [sumA]⟩
theorem N1.one : N1 1 0 1 := N1.term 0 1
theorem N1.add {x y : LP} {E V V' : Nat} (hx : N1 x E V) (hy : N1 y E V') : N1 (x + y) E (V + V') := by
  obtain ⟨a, rfl, h1, h2⟩ := hx
  obtain ⟨b, rfl, h3, h4⟩ := hy
  refine ⟨a ++ b, rfl, fun p hp => ?_, by rw [sumA_append]; omega⟩
  rcases List.mem_append.1 hp with h | h
  · exact h1 p h
  · exact h3 p h
theorem N1.neg {x : LP} {E V : Nat} (hx : N1 x E V) : N1 (-x) E V := by
  obtain ⟨a, rfl, h1, h2⟩ := hx
  refine ⟨scaleT 0 (-1) a, rfl, fun p hp => ?_, by rw [sumA_scale, show (-1 : Int).natAbs = 1 from rfl]; omega⟩
  obtain ⟨q, hq, rfl⟩ := List.mem_map.1 hp
  have := h1 q hq
  show (0 + q.1).natAbs ≤ E
  rw [Int.zero_add]; exact this
theorem N1.mul {x y : LP} {E V E' V' : Nat} (hx : N1 x E V) (hy : N1 y E' V') : N1 (x * y) (E + E') (V * V') := by
  obtain ⟨a, rfl, h1, h2⟩ := hx
  obtain ⟨b, rfl, h3, h4⟩ := hy
  refine ⟨mulT a b, rfl, fun p hp => ?_, by rw [sumA_mul]; exact Nat.mul_le_mul h2 h4⟩
  obtain ⟨q, hq, hp⟩ := List.mem_flatMap.1 hp
  obtain ⟨r, hr, rfl⟩ := List.mem_map.1 hp
  have := h1 q hq
  have := h3 r hr
  show (q.1 + r.1).natAbs ≤ E + E'
  omega
theorem N1.co {x : LP} {E V : Nat} (h : N1 x E V) (k : Int) : (LP.co x k).natAbs ≤ V := by
  obtain ⟨l, rfl, _, hv⟩ := h
  exact Nat.le_trans (coefT_sumA k l) hv
theorem N1.supp {x : LP} {E V : Nat} (h : N1 x E V) {k : Int} (hk : LP.co x k ≠ 0) : k.natAbs ≤ E := by
  obtain ⟨l, rfl, h1, _⟩ := h
  by_cases hm : ∀ p ∈ l, p.1 ≠ k
  · exact absurd (sumT_out k l hm) hk
  · obtain ⟨p, hp⟩ := Classical.not_forall.1 hm
    obtain ⟨hp, e⟩ := Classical.not_imp.1 hp
    have := h1 p hp
    rw [Classical.not_not.1 e] at this
    exact this
theorem N1.sm {x : LP} {E V : Nat} (h : N1 x E V) : Sm x (-(E : Int)) E V := ⟨fun k hk => by have := h.supp hk; omega, h.co⟩
theorem N1.rt {x : LP} {E V : Nat} (h : N1 x E V) (h1 : E ≤ 99) (h2 : V ≤ 100000000) : Rt x := h.sm.pfl (by omega) (by omega) (by omega) h2
theorem N1.sumN {f : Nat → LP} {E V : Nat} : ∀ {n : Nat}, (∀ i, i < n → N1 (f i) E V) → N1 (CR.sumN n f) E (n * V)
  | 0, _ => N1.zero.mono (Nat.zero_le _) (Nat.zero_le _)
  | n + 1, h => by
    rw [CR.sumN_succ, Nat.succ_mul]
    exact (N1.sumN fun i hi => h i (by omega)).add (h n (by omega))
theorem N1.sgR (j : Nat) : N1 (CR.sgR LP j) 0 1 := by
  unfold CR.sgR
  split
  · exact N1.one
  · exact N1.one.neg
def fctP : Nat → Nat
  | 0 => 1
  | n + 1 => (n + 1) * fctP n
theorem N1.detR {E V : Nat} : ∀ {n : Nat} {M : Mtx LP}, (∀ i, i < n → ∀ j, j < n → N1 (M i j) E V) → N1 (Proofs.Ytndgffiihbdppaa.detR n M) (n * E) (fctP n * V ^ n)
  | 0, M, _ => by
    show N1 1 (0 * E) (1 * V ^ 0)
    rw [Nat.zero_mul, Nat.pow_zero]
    exact N1.one
  | n + 1, M, h => by
    have h1 : ∀ j, j < n + 1 → N1 (CR.sgR LP j * (M 0 j * Proofs.Ytndgffiihbdppaa.detR n fun a b => M (a + 1) (CR.skip j b))) ((n + 1) * E) (V * (fctP n * V ^ n)) := fun j hj => by
      have h2 := (N1.sgR j).mul ((h 0 (by omega) j hj).mul (N1.detR (M := fun a b => M (a + 1) (CR.skip j b)) fun i hi k hk => h (i + 1) (by omega) _ (skip_lt hk)))
      refine h2.mono ?_ ?_
      · rw [Nat.succ_mul]; omega
      · rw [Nat.one_mul]; exact Nat.le_refl _
    have h3 := N1.sumN h1
    refine N1.mono (x := CR.sumN (n + 1) _) h3 (Nat.le_refl _) (Nat.le_of_eq ?_)
    show (n + 1) * (V * (fctP n * V ^ n)) = (n + 1) * fctP n * V ^ (n + 1)
    rw [Nat.pow_succ]
    ac_rfl
end LP
end Go.Proofs.Ytndgffiihbdppaa
/- Burau matrices: letters as row operations, the relations of the braid group, row sums, the row 1, t, t^2, .. . -/
namespace Go.Proofs.Ytndgffiihbdppaa
set_option linter.unusedVariables false
set_option linter.unusedSimpArgs false
set_option linter.unusedSectionVars false
open CR

section
variable {R : Type} [CR R]
/-- Equal within n rows and columns. -/
def EqM (n : Nat) (A B : Mtx R) : Prop := ∀ i, i < n → ∀ j, j < n → A i j = B i j
theorem EqM.refl (n : Nat) (A : Mtx R) : EqM n A A := fun _ _ _ _ => rfl
theorem EqM.symm {n : Nat} {A B : Mtx R} (h : EqM n A B) : EqM n B A := fun i hi j hj => (h i hi j hj).symm
theorem EqM.trans {n : Nat} {A B C : Mtx R} (h : EqM n A B) (k : EqM n B C) : EqM n A C := fun i hi j hj => (h i hi j hj).trans (k i hi j hj)
theorem EqM.mul {n : Nat} {A A' B B' : Mtx R} (h : EqM n A A') (k : EqM n B B') : EqM n (mulM n A B) (mulM n A' B') := fun i hi j hj =>
  sumN_congr fun l hl => by rw [h i hi l hl, k l hl j hj]
theorem EqM.one_mul (n : Nat) (A : Mtx R) : EqM n (mulM n oneM A) A := fun i hi j hj => by
  show sumN n (fun k => oneM i k * A k j) = A i j
  rw [sumN_single (k := i) hi (fun k _ hne => by rw [show (oneM : Mtx R) i k = 0 from if_neg (Ne.symm hne), zero_mul]), show (oneM : Mtx R) i i = 1 from if_pos rfl, CR.one_mul]
theorem EqM.mul_one (n : Nat) (A : Mtx R) : EqM n (mulM n A oneM) A := fun i hi j hj => by
  show sumN n (fun k => A i k * oneM k j) = A i j
  rw [sumN_single (k := j) hj (fun k _ hne => by rw [show (oneM : Mtx R) k j = 0 from if_neg hne, mul_zero]), show (oneM : Mtx R) j j = 1 from if_pos rfl, CR.mul_one]

/-- What a positive letter does to rows a - 1 and a. -/
def opP (t : R) (a : Nat) (A : Mtx R) : Mtx R := fun r c => if r + 1 = a then (1 + -t) * A r c + t * A (r + 1) c else if r = a then A (r - 1) c else A r c
def opN (t : R) (a : Nat) (A : Mtx R) : Mtx R := fun r c => if r + 1 = a then A (r + 1) c else if r = a then t * A (r - 1) c + (1 + -t) * A r c else A r c
theorem EqM.opP {n : Nat} {A B : Mtx R} (t : R) {a : Nat} (ha : a < n) (h : EqM n A B) : EqM n (Proofs.Ytndgffiihbdppaa.opP t a A) (Proofs.Ytndgffiihbdppaa.opP t a B) := fun r hr c hc => by
  unfold Proofs.Ytndgffiihbdppaa.opP
  by_cases h1 : r + 1 = a
  · rw [if_pos h1, if_pos h1, h r hr c hc, h (r + 1) (by omega) c hc]
  · rw [if_neg h1, if_neg h1]
    split
    · exact h _ (by omega) c hc
    · exact h r hr c hc
theorem EqM.opN {n : Nat} {A B : Mtx R} (t : R) {a : Nat} (ha : a < n) (h : EqM n A B) : EqM n (Proofs.Ytndgffiihbdppaa.opN t a A) (Proofs.Ytndgffiihbdppaa.opN t a B) := fun r hr c hc => by
  unfold Proofs.Ytndgffiihbdppaa.opN
  by_cases h1 : r + 1 = a
  · rw [if_pos h1, if_pos h1, h (r + 1) (by omega) c hc]
  · rw [if_neg h1, if_neg h1]
    split
    · rw [h r hr c hc, h _ (by omega) c hc]
    · exact h r hr c hc
end

def tT : LP := LP.term 1 1
def tI : LP := LP.term (-1) 1
def opL (x : Int) (A : Mtx LP) : Mtx LP := if 0 < x then opP tT x.natAbs A else opN tI x.natAbs A
/-- Letters of a braid word on n strands. -/
def okB (n : Nat) (w : List Int) : Prop := ∀ x ∈ w, x ≠ 0 ∧ x.natAbs < n
theorem EqM.opL {n : Nat} {A B : Mtx LP} {x : Int} (hx : x.natAbs < n) (h : EqM n A B) : EqM n (Proofs.Ytndgffiihbdppaa.opL x A) (Proofs.Ytndgffiihbdppaa.opL x B) := by
  unfold Proofs.Ytndgffiihbdppaa.opL
  split
  · exact h.opP _ hx
  · exact h.opN _ hx
def opW : List Int → Mtx LP → Mtx LP
  | [], A => A
  | x :: w, A => opL x (opW w A)
/-- Words that are equal by a relation: what they do to all matrices is equal. -/
def RelB (a b : List Int) : Prop := ∀ A : Mtx LP, opW a A = opW b A
theorem RelB.symm {a b : List Int} (h : RelB a b) : RelB b a := fun A => (h A).symm
end Go.Proofs.Ytndgffiihbdppaa
/- Braid words: what is wrong with one, where its strands end. -/
namespace Go.Proofs.Ytndgffiihbdppaa
set_option linter.unusedVariables false
set_option linter.unusedSimpArgs false

def okX (n x : Int) : Bool := decide (x ≠ 0 ∧ x < n ∧ -n < x)
def bfault (n : Int) (w : List Int) : Int := if n < 1 ∨ 6 < n then 1 else if 30 < w.length then 2 else if w.all (okX n) then 0 else 3
theorem bfault_zero {n : Int} {w : List Int} (h : bfault n w = 0) : 1 ≤ n ∧ n ≤ 6 ∧ w.length ≤ 30 ∧ ∀ x ∈ w, x ≠ 0 ∧ x < n ∧ -n < x := by
  unfold bfault at h
  split at h
  · omega
  · next h1 =>
    split at h
    · omega
    · next h2 =>
      split at h
      · next h3 => exact ⟨by omega, by omega, by omega, fun x hx => by simpa [okX] using List.all_eq_true.1 h3 x hx⟩
      · omega
/-- Where a strand goes at a letter. -/
def stepE (at_ : Nat) (x : Int) : Nat := if at_ + 1 = x.natAbs then at_ + 1 else if at_ = x.natAbs then at_ - 1 else at_
def endE (w : List Int) (s : Nat) : Nat := w.foldl stepE s
def endsL (n : Nat) (w : List Int) : List Nat := (List.range n).map (endE w)
theorem endsL_length (n : Nat) (w : List Int) : (endsL n w).length = n := by simp [endsL]
theorem stepE_lt {n at_ : Nat} {x : Int} (hx : x ≠ 0) (h1 : x.natAbs < n) (h : at_ < n) : stepE at_ x < n := by
  unfold stepE
  split
  · omega
  · split <;> omega
theorem endE_lt {n : Nat} : ∀ {w : List Int}, okB n w → ∀ {s : Nat}, s < n → endE w s < n
  | [], _, s, h => h
  | x :: w, hw, s, h => by
    show endE w (stepE s x) < n
    exact endE_lt (fun y hy => hw y (by simp [hy])) (stepE_lt (hw x (by simp)).1 (hw x (by simp)).2 h)
theorem endE_append (u v : List Int) (s : Nat) : endE (u ++ v) s = endE v (endE u s) := by unfold endE; rw [List.foldl_append]
theorem endE_snoc (w : List Int) (x : Int) (s : Nat) : endE (w ++ [x]) s = stepE (endE w s) x := by rw [endE_append]; rfl
theorem okB_of {n : Nat} {w : List Int} (h : ∀ x ∈ w, x ≠ 0 ∧ x < (n : Int) ∧ -(n : Int) < x) : okB n w := fun x hx => by have := h x hx; omega
/-- Words that act alike on all strands. -/
def RelE (a b : List Int) : Prop := ∀ s, endE a s = endE b s
theorem RelE.ends {a b : List Int} (h : RelE a b) (n : Nat) (u v : List Int) : endsL n (u ++ a ++ v) = endsL n (u ++ b ++ v) := by
  unfold endsL
  refine List.map_congr_left fun s _ => ?_
  rw [endE_append, endE_append, endE_append, endE_append, h]
theorem stepE_neg (s : Nat) (x : Int) : stepE s (-x) = stepE s x := by unfold stepE; rw [Int.natAbs_neg]
theorem stepE_twice {x : Int} (h : x ≠ 0) (s : Nat) : stepE (stepE s x) x = s := by
  unfold stepE
  by_cases h1 : s + 1 = x.natAbs
  · rw [if_pos h1, if_neg (by omega), if_pos (by omega)]; omega
  · rw [if_neg h1]
    by_cases h2 : s = x.natAbs
    · rw [if_pos h2, if_pos (by omega)]; omega
    · rw [if_neg h2, if_neg h1, if_neg h2]
theorem relE_x {x : Int} (h : x ≠ 0) : RelE [x, -x] [] := fun s => by
  show stepE (stepE s x) (-x) = s
  rw [stepE_neg, stepE_twice h]
theorem endE_inv : ∀ (w : List Int), (∀ x ∈ w, x ≠ 0) → ∀ s, endE (w ++ invw w) s = s
  | [], _, _ => rfl
  | x :: w, h, s => by
    have e : invw (x :: w) = invw w ++ [-x] := by simp [invw]
    rw [e, show x :: w ++ (invw w ++ [-x]) = [x] ++ ((w ++ invw w) ++ [-x]) by simp, endE_append, endE_append, endE_inv w (fun y hy => h y (by simp [hy])), ← endE_append]
    exact relE_x (h x (by simp)) s
end Go.Proofs.Ytndgffiihbdppaa
/- Colors from letter to letter (mathematics of stage 15). -/
namespace Go.Proofs.Ytndgffiihbdppaa
set_option linter.unusedVariables false
set_option linter.unusedSimpArgs false

/-- The colors behind a letter. -/
def cSt (m x : Int) (c : List Int) : List Int :=
  if 0 < x then (c.set (x.natAbs - 1) ((2 * c.getD (x.natAbs - 1) 0 - c.getD x.natAbs 0) % m)).set x.natAbs (c.getD (x.natAbs - 1) 0)
  else (c.set (x.natAbs - 1) (c.getD x.natAbs 0)).set x.natAbs ((2 * c.getD x.natAbs 0 - c.getD (x.natAbs - 1) 0) % m)
/-- The colors behind a word. -/
def cCol (m : Int) (w : List Int) (c : List Int) : List Int := w.foldl (fun c x => cSt m x c) c
/-- Colors for n positions. -/
structure IsC (m : Int) (n : Nat) (c : List Int) : Prop where
  len : c.length = n
  col : ∀ j, j < n → 0 ≤ c.getD j 0 ∧ c.getD j 0 < m
theorem cSt_length (m x : Int) (c : List Int) : (cSt m x c).length = c.length := by unfold cSt; split <;> simp
theorem cSt_getD {m x : Int} {c : List Int} {n : Nat} (hl : c.length = n) (h0 : x ≠ 0) (h1 : x.natAbs < n) {j : Nat} (hj : j < n) :
    (cSt m x c).getD j 0 = if j + 1 = x.natAbs then (if 0 < x then (2 * c.getD j 0 - c.getD (j + 1) 0) % m else c.getD (j + 1) 0)
      else if j = x.natAbs then (if 0 < x then c.getD (j - 1) 0 else (2 * c.getD j 0 - c.getD (j - 1) 0) % m) else c.getD j 0 := by
  unfold cSt
  obtain ⟨i, hi⟩ : ∃ i, x.natAbs = i + 1 := ⟨x.natAbs - 1, by omega⟩
  rw [hi] at h1 ⊢
  rw [Nat.add_sub_cancel]
  have hs : ∀ (l : List Int) (k : Nat) (v : Int), k < l.length → (l.set k v).getD j 0 = if k = j then v else l.getD j 0 := fun l k v hk => by
    simp only [List.getD, List.getElem?_set]
    by_cases e : k = j
    · subst e; simp [hk]
    · simp [e]
  by_cases hx : 0 < x
  · rw [if_pos hx, hs _ _ _ (by simp; omega), hs _ _ _ (by omega)]
    by_cases e1 : j = i
    · subst e1; simp [hx]
    · by_cases e2 : j = i + 1
      · subst e2; simp [hx]
      · rw [if_neg (by omega), if_neg (by omega), if_neg (by omega), if_neg (by omega)]
  · rw [if_neg hx, hs _ _ _ (by simp; omega), hs _ _ _ (by omega)]
    by_cases e1 : j = i
    · subst e1; simp [hx]
    · by_cases e2 : j = i + 1
      · subst e2; simp [hx]
      · rw [if_neg (by omega), if_neg (by omega), if_neg (by omega), if_neg (by omega)]
theorem IsC.step {m x : Int} {c : List Int} {n : Nat} (h : IsC m n c) (h0 : x ≠ 0) (h1 : x.natAbs < n) : IsC m n (cSt m x c) := by
  refine ⟨by rw [cSt_length]; exact h.len, fun j hj => ?_⟩
  have hm : 0 < m := by have := h.col j hj; omega
  rw [cSt_getD h.len h0 h1 hj]
  have e : ∀ z : Int, 0 ≤ z % m ∧ z % m < m := fun z => ⟨Int.emod_nonneg _ (by omega), Int.emod_lt_of_pos _ hm⟩
  by_cases e1 : j + 1 = x.natAbs
  · rw [if_pos e1]
    split
    · exact e _
    · exact h.col _ (by omega)
  · rw [if_neg e1]
    by_cases e2 : j = x.natAbs
    · rw [if_pos e2]
      split
      · exact h.col _ (by omega)
      · exact e _
    · rw [if_neg e2]; exact h.col j hj
theorem IsC.word {m : Int} {n : Nat} : ∀ {w c : List Int}, (∀ x ∈ w, x ≠ 0 ∧ x.natAbs < n) → IsC m n c → IsC m n (cCol m w c)
  | [], c, _, h => h
  | x :: w, c, hw, h => IsC.word (w := w) (fun y hy => hw y (by simp [hy])) (h.step (hw x (by simp)).1 (hw x (by simp)).2)
end Go.Proofs.Ytndgffiihbdppaa
/- slices.Index where there is none, slices.Contains. -/
namespace Go.Proofs.Ytndgffiihbdppaa
set_option linter.unusedVariables false
set_option linter.unusedSimpArgs false
open Go.RowKit

theorem index_not (A : Option Addr) (n c : Nat) (us : List Nat) (x : Nat) (w : World) (ha : IL w A n (zs us)) (hx : x ∉ us) :
    Calls Try.prog 46 #[.slice A n c, .int .i64 x] w fun e w' => e = .returned (.int .i64 (-1)) ∧ w = w' := by
  have hna := ha.small
  have HL : Hid (us.length = n) := by have := ha.len; rwa [zs_length] at this
  have HX := hide hx
  clear hx
  go_enter Try.func46, Try.ntmps46
  go_wp2
  go_loop [8] (fun i => ∃ k : Nat, k ≤ n ∧ i = .int .i64 k) (fun i => n - (intOf i).toNat)
  case atStart => exact ⟨0, Nat.zero_le _, rfl⟩
  case round =>
    obtain ⟨k, hk, rfl⟩ := hrel
    by_cases hlt : k < n
    · obtain ⟨ad, rfl, hca⟩ := ha.at_ hlt
      rw [zs_getD] at hca
      have he : us.getD k 0 ≠ x := fun e => HX.out (by rw [← e]; exact getD_mem (by rw [HL.out]; exact hlt))
      have hb : ((x : Int) == ((us.getD k 0 : Nat) : Int)) = false := by
        have : ¬ (x : Int) = ((us.getD k 0 : Nat) : Int) := fun e => he (by omega)
        simpa using this
      clear he
      generalize us.getD k 0 = y at *
      go_wp2
      go_round
      case rel => exact ⟨k + 1, by omega, by go_num⟩
      case measure => simp [intOf]; omega
    · go_wp2
      go_ret
      exact ⟨rfl, rfl⟩
theorem contains_any (A : Option Addr) (n c : Nat) (us : List Nat) (x : Nat) (w : World) (ha : IL w A n (zs us)) :
    Calls Try.prog 45 #[.slice A n c, .int .i64 x] w fun e w' => e = .returned (.bool (us.contains x)) ∧ w = w' := by
  by_cases hx : x ∈ us
  · have HX : Hid (us.contains x = true) := hide (by simpa using hx)
    have HI := hide (index_mem A n c us x w ha hx)
    have hlt := idxOf_lt hx
    clear ha hx
    go_enter Try.func45, Try.ntmps45
    go_wp2_with fail
    refine HI.out.mono ?_
    rintro e w1 ⟨rfl, rfl⟩
    have hg : decide ((0 : Int) ≤ ((us.idxOf x : Nat) : Int)) = true := decide_eq_true (by omega)
    generalize us.idxOf x = q at *
    clear HI
    go_wp2_with fail
    go_ret
    rw [HX.out]
    exact ⟨by simp, rfl⟩
  · have HX : Hid (us.contains x = false) := hide (by simpa using hx)
    have HI := hide (index_not A n c us x w ha hx)
    clear ha hx
    go_enter Try.func45, Try.ntmps45
    go_wp2_with fail
    refine HI.out.mono ?_
    rintro e w1 ⟨rfl, rfl⟩
    clear HI
    go_wp2_with fail
    go_ret
    rw [HX.out]
    exact ⟨by simp, rfl⟩
end Go.Proofs.Ytndgffiihbdppaa
/- Closures that visit lists of numbers; timbref1.Permutations. -/
namespace Go.Proofs.Ytndgffiihbdppaa
set_option linter.unusedVariables false
set_option linter.unusedSimpArgs false
open Go.RowKit

theorem IL.kept {w w' : World} {A : Option Addr} {n : Nat} {xs : List Int} (h : IL w A n xs) {g : Nat} (hg : w.grownBy w' (some g)) (hne : ∀ ad, A = some ad → ad.block ≠ g) : IL w' A n xs :=
  ⟨h.len, h.small, fun hn => by
    obtain ⟨ad, e, hl, hc⟩ := h.mem hn
    refine ⟨ad, e, Nat.lt_of_lt_of_le hl hg.size, fun j hj => ?_⟩
    rw [hg.cell_far (ad.add j) (by rw [block_of_add]; exact hl) (by rw [block_of_add]; exact fun e' => hne ad e (by injection e'))]
    exact hc j hj⟩
theorem Blk.kept {w w' : World} {g k : Nat} {t : TypeId} {cs : Array Value} (h : Blk w k t cs) (hg : w.grownBy w' (some g)) (hne : k ≠ g) : Blk w' k t cs := h.grown hg (fun e => hne (by injection e))
section
variable {fid : FuncId} {caps : List Value} {g : Nat} {σ : Type} {J : σ → World → Prop} {step : σ → List Nat → σ} {n : Nat}
end
end Go.Proofs.Ytndgffiihbdppaa
