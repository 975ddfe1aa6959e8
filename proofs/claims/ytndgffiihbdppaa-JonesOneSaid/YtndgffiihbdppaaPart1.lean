/- Several texts in one. -/
import Derived.Test.YtndgffiihbdppaaBase1
import Derived.Test.YtndgffiihbdppaaProg
import Derived.WalkKit
import Derived.Deep.QuietTactic
import Derived.BigQuiet
import Derived.WalkSpells
import Derived.WalkLawsBesides
import Derived.Outline
import Derived.Handy
import Derived.Deep.DeepCutAuto
import Derived.Laws.BitsAllLaws
/- Small functions over permutations: compose, identity, countSmaller, Below. -/
namespace Go.Proofs.Ytndgffiihbdppaa
set_option linter.unusedVariables false
set_option linter.unusedSimpArgs false
open Go.RowKit

theorem int_info : (Try.prog.info? 3).map (fun i => (i.zero, i.size, i.bytes)) = some (some (.int .i64 0), 1, 8) := by kernel_rfl

/-- The result of a function that makes a slice. -/
def GivesOwn (w : World) (xs : List Int) (e : Ending) (w' : World) : Prop :=
  ∃ A n c, e = .returned (.slice A n c) ∧ OwnI w' w.heap.size A n c xs ∧ Below w.heap.size w w'

theorem add_zero_block (g j : Nat) : (⟨g, 0, none⟩ : Addr).add j = ⟨g, j, none⟩ := by unfold Addr.add; split <;> simp_all

end Go.Proofs.Ytndgffiihbdppaa
/- identity, Row, Below, countSmaller, Index. -/
namespace Go.Proofs.Ytndgffiihbdppaa
set_option linter.unusedVariables false
set_option linter.unusedSimpArgs false
open Go.RowKit

theorem emod_of_tmod (n : Int) (m : Nat) (h0 : 0 < m) : n % (m : Int) = if n.tmod m < 0 then n.tmod m + m else n.tmod m := by
  have h1 := Int.tmod_add_mul_tdiv n m
  have h2 := Int.tmod_lt_of_pos n (b := m) (by omega)
  have h3 := Int.lt_tmod_of_pos n (b := m) (by omega)
  generalize hr : n.tmod m = r at *
  have e : ∀ x : Int, 0 ≤ x → x < m → (∃ q, n = x + m * q) → n % (m : Int) = x := fun x hx0 hx1 ⟨q, hq⟩ => by
    rw [hq, Int.add_mul_emod_self_left]
    exact Int.emod_eq_of_lt hx0 hx1
  by_cases h : r < 0
  · rw [if_pos h]
    refine e _ (by omega) (by omega) ⟨n.tdiv m - 1, ?_⟩
    rw [Int.mul_sub]
    omega
  · rw [if_neg h]
    exact e _ (by omega) (by omega) ⟨n.tdiv m, by omega⟩

set_option maxHeartbeats 1000000 in
theorem mbelow_any (n : Int) (m : Nat) (w : World) (h0 : 0 < m) (hm : m ≤ 1000000) :
    Calls Try.prog 48 #[.int .i64 n, .int .i64 m] w fun e w' => e = .returned (.int .i64 (n % (m : Int))) ∧ w = w' := by
  have HE := hide (emod_of_tmod n m h0)
  have h2 := Int.tmod_lt_of_pos n (b := m) (by omega)
  have h3 := Int.lt_tmod_of_pos n (b := m) (by omega)
  by_cases h : n.tmod m < 0
  · have HE' : Hid (n % (m : Int) = n.tmod m + m) := by rw [HE.out, if_pos h]; exact rfl
    clear HE
    go_enter Try.func48, Try.ntmps48
    go_wp2
    go_ret
    rw [HE'.out]
    exact ⟨rfl, rfl⟩
  · have HE' : Hid (n % (m : Int) = n.tmod m) := by rw [HE.out, if_neg h]; exact rfl
    clear HE
    go_enter Try.func48, Try.ntmps48
    go_wp2
    go_ret
    rw [HE'.out]
    exact ⟨rfl, rfl⟩

end Go.Proofs.Ytndgffiihbdppaa
/- slices.Delete of one element of a slice that the call owns. -/
namespace Go.Proofs.Ytndgffiihbdppaa
set_option linter.unusedVariables false
set_option linter.unusedSimpArgs false
open Go.RowKit

/-- ys written over xs from o on. -/
def setMany (xs : List Int) (o : Nat) : List Int → List Int
  | [] => xs
  | y :: ys => setMany (xs.set o y) (o + 1) ys
theorem setMany_length : ∀ (ys xs : List Int) (o : Nat), (setMany xs o ys).length = xs.length
  | [], _, _ => rfl
  | y :: ys, xs, o => by rw [setMany, setMany_length ys]; simp
theorem setMany_getD : ∀ (ys xs : List Int) (o j : Nat), o + ys.length ≤ xs.length → (setMany xs o ys).getD j 0 = if o ≤ j ∧ j < o + ys.length then ys.getD (j - o) 0 else xs.getD j 0
  | [], xs, o, j, _ => by rw [setMany, if_neg (by simp)]
  | y :: ys, xs, o, j, h => by
    simp only [List.length_cons] at h
    rw [setMany, setMany_getD ys _ _ _ (by simp; omega)]
    by_cases h1 : o + 1 ≤ j ∧ j < o + 1 + ys.length
    · rw [if_pos h1, if_pos (by simp; omega)]
      rw [show j - o = (j - (o + 1)) + 1 from by omega]
      simp [List.getD]
    · rw [if_neg h1]
      by_cases h2 : j = o
      · subst h2
        rw [if_pos (by simp)]
        simp [List.getD, show j < xs.length by omega]
      · rw [if_neg (by simp; omega)]
        have : ¬ o = j := fun e => h2 e.symm
        simp [List.getD, List.getElem?_set, this]

section
variable {w w' : World} {base g n c : Nat} {xs : List Int}
theorem OwnI.setCells : ∀ (ys : List Int) {w : World} {xs : List Int} (o : Nat), OwnI w base (some ⟨g, 0, none⟩) n c xs → OwnI (w.setCells g o (ys.map (Value.int .i64))) base (some ⟨g, 0, none⟩) n c (setMany xs o ys)
  | [], _, _, _, h => h
  | y :: ys, _, _, o, h => OwnI.setCells ys (o + 1) (h.set_ o y)
theorem OwnI.shrink {A : Option Addr} {m : Nat} (h : OwnI w base A n c xs) (hm : m ≤ n) (h0 : 0 < n) : OwnI w base A m c (xs.take m) := by
  have hl := h.len
  refine ⟨⟨by simp; omega, ?_⟩, by have := h.small; omega⟩
  rcases h.own.2 with ⟨_, h2⟩ | ⟨g, cap, cur, hv, hg, hh, hnc, hcm, hcs, ht⟩
  · omega
  · simp only [Value.slice.injEq, true_and] at hv
    obtain ⟨rfl, rfl⟩ := hv
    refine .inr ⟨g, c, cur, rfl, hg, hh, by omega, hcm, hcs, ?_⟩
    rw [List.map_take, ← ht, List.take_take]
    congr 1
    omega
end

/-- The list without its element i. -/
def without (xs : List Int) (i : Nat) : List Int := xs.take i ++ xs.drop (i + 1)
theorem without_length {xs : List Int} {i : Nat} (h : i < xs.length) : (without xs i).length = xs.length - 1 := by simp [without]; omega
theorem deleted {xs : List Int} {n i : Nat} (hl : xs.length = n) (hi : i < n) : ((setMany xs i (xs.drop (i + 1))).set (n - 1) 0).take (n - 1) = without xs i := by
  have hx : (setMany xs i (xs.drop (i + 1))).length = n := by rw [setMany_length, hl]
  apply List.ext_getElem?
  intro j
  by_cases hj : j < n - 1
  · rw [List.getElem?_take, if_pos hj, List.getElem?_set, if_neg (by omega)]
    have h1 := setMany_getD (xs.drop (i + 1)) xs i j (by simp; omega)
    have h2 : ((setMany xs i (xs.drop (i + 1)))[j]?) = some ((setMany xs i (xs.drop (i + 1))).getD j 0) := by
      simp [List.getD, List.getElem?_eq_getElem (show j < (setMany xs i (xs.drop (i + 1))).length by omega)]
    rw [h2, h1]
    have h3 : (without xs i)[j]? = some ((without xs i).getD j 0) := by
      simp [List.getD, List.getElem?_eq_getElem (show j < (without xs i).length by rw [without_length (by omega)]; omega)]
    rw [h3]
    congr 1
    by_cases hji : j < i
    · rw [if_neg (by omega)]
      simp only [without, List.getD, List.getElem?_append, List.length_take, List.getElem?_take]
      rw [if_pos (by omega), if_pos hji]
    · rw [if_pos (by simp; omega)]
      simp only [without, List.getD, List.getElem?_append, List.length_take, List.getElem?_drop]
      rw [if_neg (by omega), show min i xs.length = i from by omega]
  · rw [List.getElem?_eq_none (by simp; omega), List.getElem?_eq_none (by rw [without_length (by omega)]; omega)]

end Go.Proofs.Ytndgffiihbdppaa
/- slices.Index, and timbref1.Number. -/
namespace Go.Proofs.Ytndgffiihbdppaa
set_option linter.unusedVariables false
set_option linter.unusedSimpArgs false
open Go.RowKit

theorem idx_sorted : ∀ {us : List Nat} {x : Nat}, Sorted us → x ∈ us → us.idxOf x = cntN us x
  | u :: t, x, hs, hx => by
    have hs' := List.pairwise_cons.1 hs
    by_cases h : x = u
    · subst h
      rw [cntN_self, cnt_zero (fun y hy => Nat.le_of_lt (hs'.1 y hy))]
      simp [List.idxOf_cons]
    · have hxt : x ∈ t := by
        rcases List.mem_cons.1 hx with e | e
        · exact absurd e h
        · exact e
      rw [cntN_cons, if_pos (hs'.1 x hxt), ← idx_sorted hs'.2 hxt, List.idxOf_cons]
      have hb : (u == x) = false := by simp; exact fun e => h e.symm
      rw [hb]
      rfl
theorem idxOf_lt {us : List Nat} {x : Nat} (h : x ∈ us) : us.idxOf x < us.length := List.idxOf_lt_length_iff.2 h

/-- What timbref1.Number's loop knows. -/
structure NumSt (a us : List Nat) (k : Nat) : Prop where
  perm : us.Perm (a.drop k)
  sorted : Sorted us
theorem NumSt.step {a us : List Nat} {k : Nat} (h : NumSt a us k) (hk : k < a.length) :
    a.getD k 0 ∈ us ∧ us.length = a.length - k ∧ us.idxOf (a.getD k 0) = cntLt ((zs a).drop k) (a.getD k 0 : Nat) ∧ NumSt a (us.take (us.idxOf (a.getD k 0)) ++ us.drop (us.idxOf (a.getD k 0) + 1)) (k + 1) := by
  have hd : a.drop k = a.getD k 0 :: a.drop (k + 1) := by rw [getD_eq hk, ← List.drop_eq_getElem_cons hk]
  have hm : a.getD k 0 ∈ us := h.perm.mem_iff.2 (by rw [hd]; exact List.mem_cons_self ..)
  have hi : us.idxOf (a.getD k 0) = cntN us (a.getD k 0) := idx_sorted h.sorted hm
  have hl : us.length = a.length - k := by rw [h.perm.length_eq, List.length_drop]
  refine ⟨hm, hl, ?_, ?_, sorted_pick h.sorted _⟩
  · rw [hi, zs_drop, cntLt_zs, cntN_perm h.perm]
  · have hp := perm_pick (idxOf_lt hm)
    have hx : us.getD (us.idxOf (a.getD k 0)) 0 = a.getD k 0 := by rw [hi]; exact sorted_at h.sorted hm
    rw [hx] at hp
    have h2 := hp.trans h.perm
    rw [hd] at h2
    exact h2.cons_inv

end Go.Proofs.Ytndgffiihbdppaa
/- timbref1: After, Back, Times; slices.Clone. -/
namespace Go.Proofs.Ytndgffiihbdppaa
set_option linter.unusedVariables false
set_option linter.unusedSimpArgs false
open Go.RowKit

theorem OwnI.nil {w : World} {base n c : Nat} {A : Option Addr} {xs : List Int} (h : OwnI w base A n c xs) : A = none → n = 0 ∧ c = 0 := by
  rintro rfl
  rcases h.own.2 with ⟨hv, h0⟩ | ⟨g, cap, cur, hv, _⟩
  · injection hv with _ _ hc
    exact ⟨h0, hc⟩
  · injection hv with hv
    cases hv

/-- A permutation of degree k. -/
def PN' (k : Nat) (a : List Nat) : Prop := isP a ∧ a.length = k

set_option maxHeartbeats 1000000 in
theorem clone_any (A : Option Addr) (n c : Nat) (xs : List Int) (w : World) (ha : IL w A n xs) (hc : A = none → n = 0 ∧ c = 0) :
    Calls Try.prog 98 #[.slice A n c] w (GivesOwn w xs) := by
  obtain ⟨i0, hi0, hz0, hz1, hz2⟩ := info_parts int_info
  rcases A with _ | ad
  · obtain ⟨rfl, rfl⟩ := hc rfl
    have hx : xs = [] := List.eq_nil_of_length_eq_zero ha.len
    subst hx
    have hnil := fun (W : World) => Lib.run_eql_slice_nil (P := Try.prog) W 22 3 none 0 0 0 0 Try.underlying22
    go_enter Try.func98, Try.ntmps98
    go_wp2
    go_ret
    exact ⟨none, 0, 0, rfl, OwnI.nil_ _ _, Below.refl _ _⟩
  · have hnil := fun (W : World) => Lib.run_eql_slice_nil (P := Try.prog) W 22 3 (some ad) n c 0 0 Try.underlying22
    have hsm := ha.small
    have hl0 : OwnI (w.alloc (.cells #[] 3)) w.heap.size (some ⟨w.heap.size, 0, none⟩) 0 0 [] := OwnI.lit w [] (Nat.le_refl _) (by simp) rfl rfl rfl
    have ha1 := ha.alloc (.cells #[] 3)
    have hb1 : Below w.heap.size w (w.alloc (.cells #[] 3)) := (Below.refl _ _).alloc (Nat.le_refl _) _
    go_enter Try.func98, Try.ntmps98
    go_wp2_with (at_builtin; refine wpList_append_int _ rfl (.tmp 5) (.tmp 6) 22 rfl w.heap.size i0 Try.underlying22 hi0 hz0 hz1 hz2 (some ⟨w.heap.size, 0, none⟩) 0 0 [] rfl hl0 (some ad) n c xs rfl ha1 (by omega) (by simp) ?_; intro A9 c9 w9 happ)
    go_ret
    have ho := happ.own
    rw [List.nil_append] at ho
    rw [Nat.zero_add] at ho
    refine ⟨_, _, _, rfl, ho, hb1.grown happ.grown (by simp) (fun g hg => by simp [Value.ownBlock] at hg; omega)⟩

/-- The state of the loop of Times. -/
structure TiSt (n : Nat) (T o b : List Nat) (m : Nat) : Prop where
  po : PN' n o
  pb : PN' n b
  val : comp o (powN b m) = T
theorem TiSt.odd {n m : Nat} {T o b : List Nat} (h : TiSt n T o b m) (hm : m % 2 = 1) : TiSt n T (comp o b) (comp b b) (m / 2) := by
  refine ⟨⟨comp_isP h.po.1 h.pb.1 (h.po.2.trans h.pb.2.symm), by rw [comp_length]; exact h.po.2⟩, ⟨comp_isP h.pb.1 h.pb.1 rfl, by rw [comp_length]; exact h.pb.2⟩, ?_⟩
  have := times_step (m := m) h.pb.1 h.po.1 h.po.2 h.pb.2
  rw [if_pos hm] at this
  rw [← this]
  exact h.val
theorem TiSt.even {n m : Nat} {T o b : List Nat} (h : TiSt n T o b m) (hm : ¬ m % 2 = 1) : TiSt n T o (comp b b) (m / 2) := by
  refine ⟨h.po, ⟨comp_isP h.pb.1 h.pb.1 rfl, by rw [comp_length]; exact h.pb.2⟩, ?_⟩
  have := times_step (m := m) h.pb.1 h.po.1 h.po.2 h.pb.2
  rw [if_neg hm] at this
  rw [← this]
  exact h.val
theorem TiSt.done {n : Nat} {T o b : List Nat} (h : TiSt n T o b 0) : o = T := by
  have := h.val
  rw [powN_zero, comp_range (fun x hx => by have := h.po.1.1 x hx; have := h.po.2; have := h.pb.2; omega)] at this
  exact this
end Go.Proofs.Ytndgffiihbdppaa
/- Slices of integers, and slices of slices of integers, with what a nil slice is. -/
namespace Go.Proofs.Ytndgffiihbdppaa
set_option linter.unusedVariables false
set_option linter.unusedSimpArgs false
open Go.RowKit

/-- A slice that reads as xs. -/
structure SL (w : World) (A : Option Addr) (n c : Nat) (xs : List Int) : Prop where
  il : IL w A n xs
  nil : A = none → n = 0 ∧ c = 0
  cap : n ≤ c
theorem SL.below {w w' : World} {A : Option Addr} {n c : Nat} {xs : List Int} (h : SL w A n c xs) (hb : Below w.heap.size w w') : SL w' A n c xs := ⟨h.il.below hb, h.nil, h.cap⟩
theorem SL.nil_ (w : World) : SL w none 0 0 [] := ⟨IL.nil_ w, fun _ => ⟨rfl, rfl⟩, Nat.le_refl _⟩
theorem OwnI.sl {w : World} {base n c : Nat} {A : Option Addr} {xs : List Int} (h : OwnI w base A n c xs) : SL w A n c xs := ⟨h.il, h.nil, h.cap⟩
theorem SL.lit (w : World) (xs : List Int) (hs : xs.length ≤ 1000) {cs : Array Value} (hc : cs = (xs.map (Value.int .i64)).toArray) {m : Nat} (hm : xs.length = m) : SL (w.alloc (.cells cs 3)) (some ⟨w.heap.size, 0, none⟩) m m xs :=
  ⟨IL.lit w xs (by omega) hc hm, fun h => (by cases h), Nat.le_refl _⟩
theorem SL.inside {w : World} {A : Option Addr} {n c : Nat} {xs : List Int} (h : SL w A n c xs) : 0 < n → ∀ ad, A = some ad → ad.block < w.heap.size := fun hn ad e => by
  obtain ⟨ad2, e2, hl, _⟩ := h.il.mem hn
  rw [e] at e2
  cases e2
  exact hl
/-- A slice of slices that reads as xss. -/
structure SLL (w : World) (A : Option Addr) (n c : Nat) (xss : List (List Int)) : Prop where
  len : xss.length = n
  small : n ≤ 17592186044416
  nil : A = none → n = 0 ∧ c = 0
  cap : n ≤ c
  mem : 0 < n → ∃ ad, A = some ad ∧ ad.block < w.heap.size ∧ ∀ j, j < n → ∃ B m d, w.cell? (ad.add j) = some (.slice B m d) ∧ SL w B m d (xss.getD j [])
theorem SLL.at_ {w : World} {A : Option Addr} {n c k : Nat} {xss : List (List Int)} (h : SLL w A n c xss) (hk : k < n) : ∃ ad B m d, A = some ad ∧ w.cell? (ad.add k) = some (.slice B m d) ∧ SL w B m d (xss.getD k []) := by
  obtain ⟨ad, e, _, hc⟩ := h.mem (by omega)
  obtain ⟨B, m, d, h1, h2⟩ := hc k hk
  exact ⟨ad, B, m, d, e, h1, h2⟩
theorem SLL.below {w w' : World} {A : Option Addr} {n c : Nat} {xss : List (List Int)} (h : SLL w A n c xss) (hb : Below w.heap.size w w') : SLL w' A n c xss :=
  ⟨h.len, h.small, h.nil, h.cap, fun hn => by
    obtain ⟨ad, e, hl, hc⟩ := h.mem hn
    refine ⟨ad, e, Nat.lt_of_lt_of_le hl hb.size, fun j hj => ?_⟩
    obtain ⟨B, m, d, h1, h2⟩ := hc j hj
    exact ⟨B, m, d, (hb.cell (p := ad.add j) (by rw [block_of_add]; exact hl)).trans h1, h2.below hb⟩⟩
theorem SLL.nil_ (w : World) : SLL w none 0 0 [] := ⟨rfl, by omega, fun _ => ⟨rfl, rfl⟩, Nat.le_refl _, fun h => absurd h (by omega)⟩
/-- A literal of slices. -/
theorem SLL.lit {w : World} {vs : List Value} {xss : List (List Int)} (hl : vs.length = xss.length) (hs : xss.length ≤ 1000) (h : ∀ j, j < xss.length → ∃ B m d, vs[j]? = some (.slice B m d) ∧ SL w B m d (xss.getD j [])) {cs : Array Value} (hc : cs = vs.toArray) {m : Nat} (hm : xss.length = m) :
    SLL (w.alloc (.cells cs 22)) (some ⟨w.heap.size, 0, none⟩) m m xss := by
  subst hc
  refine ⟨hm, by omega, fun h => (by cases h), Nat.le_refl _, fun _ => ⟨⟨w.heap.size, 0, none⟩, rfl, by simp, fun j hj => ?_⟩⟩
  obtain ⟨B, n, d, h1, h2⟩ := h j (by omega)
  refine ⟨B, n, d, ?_, h2.below ((Below.refl _ _).alloc (Nat.le_refl _) _)⟩
  rw [show (⟨w.heap.size, 0, none⟩ : Addr).add j = ⟨w.heap.size, j, none⟩ by unfold Addr.add; split <;> simp_all, (Blk.new w 22 vs.toArray).cell j]
  simpa using h1
theorem SLL.of_rows {w : World} {base n c : Nat} {A : Option Addr} {vs : List Value} {xss : List (List Int)} (h : OwnV w base A n c vs) (hr : RowsI w base vs xss) : SLL w A n c xss := by
  have hl := h.len
  have hcap : (A = none → n = 0 ∧ c = 0) ∧ n ≤ c := by
    rcases h.own.2 with ⟨hv, h0⟩ | ⟨g, cap, cur, hv, _, _, hnc, _⟩
    · simp only [Value.slice.injEq] at hv
      exact ⟨fun _ => ⟨hv.2.1, hv.2.2⟩, by omega⟩
    · simp only [Value.slice.injEq, true_and] at hv
      exact ⟨fun e => (by rw [e] at hv; exact absurd hv.1 (by simp)), by omega⟩
  refine ⟨by rw [← hr.len]; exact hl, by have := h.small; omega, hcap.1, hcap.2, fun hn => ?_⟩
  obtain ⟨g, rfl, _⟩ := h.cellAt hn
  refine ⟨⟨g, 0, none⟩, rfl, (h.lt g rfl).2, fun j hj => ?_⟩
  obtain ⟨g', e, hc⟩ := h.cellAt hj
  injection e with e
  injection e with e
  subst e
  obtain ⟨B, m, d, h1, h2⟩ := hr.row j (by omega)
  exact ⟨B, m, d, by rw [show (⟨g, 0, none⟩ : Addr).add j = ⟨g, j, none⟩ by unfold Addr.add; split <;> simp_all, hc, h1], h2.sl⟩
end Go.Proofs.Ytndgffiihbdppaa
/- slices.Equal at integers. -/
namespace Go.Proofs.Ytndgffiihbdppaa
set_option linter.unusedVariables false
set_option linter.unusedSimpArgs false
open Go.RowKit

theorem eq_take_ne {xs ys : List Int} {k : Nat} (hl : xs.length = ys.length) (hk : k < xs.length) (h : xs.getD k 0 ≠ ys.getD k 0) : xs ≠ ys := by
  rintro rfl; exact h rfl
theorem eq_of_getD {xs ys : List Int} (hl : xs.length = ys.length) (h : ∀ j, j < xs.length → xs.getD j 0 = ys.getD j 0) : xs = ys := by
  apply List.ext_getElem hl
  intro i h1 h2
  have := h i h1
  simpa [List.getD, List.getElem?_eq_getElem h1, List.getElem?_eq_getElem h2] using this

theorem same_succ {xs ys : List Int} {k : Nat} (h : ∀ j, j < k → xs.getD j 0 = ys.getD j 0) (hk : xs.getD k 0 = ys.getD k 0) : ∀ j, j < k + 1 → xs.getD j 0 = ys.getD j 0 := fun j hj => by
  rcases Nat.lt_or_ge j k with h1 | h1
  · exact h j h1
  · obtain rfl : j = k := by omega
    exact hk

set_option maxHeartbeats 1000000 in
theorem equal_any (A B : Option Addr) (n m c d : Nat) (xs ys : List Int) (w : World) (ha : IL w A n xs) (hb : IL w B m ys) :
    Calls Try.prog 36 #[.slice A n c, .slice B m d] w fun e w' => e = .returned (.bool (eqB xs ys)) ∧ Below w.heap.size w w' := by
  have hna := ha.small
  have hnb := hb.small
  have hla := ha.len
  have hlb := hb.len
  have HL : Hid (xs.length = n ∧ ys.length = m) := ⟨hla, hlb⟩
  clear hla hlb
  by_cases hnm : n = m
  · subst hnm
    go_enter Try.func36, Try.ntmps36
    go_wp2
    go_loopw [13] (fun i wr => ∃ k : Nat, k ≤ n ∧ i = .int .i64 k ∧ Hid (∀ j, j < k → xs.getD j 0 = ys.getD j 0) ∧ Below w.heap.size w wr) (fun i _ => n - (intOf i).toNat)
    case atStart => exact ⟨0, Nat.zero_le _, rfl, (fun j hj => absurd hj (by omega)), Below.refl _ _⟩
    case round =>
      obtain ⟨k, hk, rfl, hsame, hnx⟩ := hrel
      have ha' := ha.below hnx
      have hb' := hb.below hnx
      by_cases hlt : k < n
      · obtain ⟨ad, rfl, hca⟩ := ha'.at_ hlt
        obtain ⟨bd, rfl, hcb⟩ := hb'.at_ hlt
        clear ha hb ha' hb'
        by_cases hne : xs.getD k 0 = ys.getD k 0
        · have hbne : ((xs.getD k 0) != (ys.getD k 0)) = false := by rw [hne]; simp
          have HS := hide (same_succ hsame.out hne)
          clear hne hsame
          generalize xs.getD k 0 = x at *
          generalize ys.getD k 0 = y at *
          go_wp2
          go_quiet (fail)
          go_wp2
          go_roundw
          case rel => exact ⟨k + 1, by omega, by go_num, HS, below_drewN hnx _⟩
          case measure => simp [intOf]; omega
        · have hbne : ((xs.getD k 0) != (ys.getD k 0)) = true := by simpa using hne
          have HE := hide (eqB_false (eq_take_ne (HL.out.1.trans HL.out.2.symm) (by have := HL.out.1; omega) hne))
          clear hne hsame
          generalize xs.getD k 0 = x at *
          generalize ys.getD k 0 = y at *
          go_wp2
          go_quiet (fail)
          go_wp2
          go_ret
          rw [HE.out]
          exact ⟨rfl, below_drewN hnx _⟩
      · have HE := hide (eqB_true (eq_of_getD (HL.out.1.trans HL.out.2.symm) (fun j hj => hsame.out j (by have := HL.out.1; omega))))
        go_wp2
        go_ret
        rw [HE.out]
        exact ⟨rfl, hnx⟩
  · have HE := hide (eqB_false (xs := xs) (ys := ys) (fun h => hnm (by have := HL.out.1; have := HL.out.2; subst h; omega)))
    have hb1 : ((n : Int) != (m : Int)) = true := by simp; omega
    clear ha hb
    go_enter Try.func36, Try.ntmps36
    go_wp2
    go_ret
    rw [HE.out]
    exact ⟨rfl, Below.refl _ _⟩
end Go.Proofs.Ytndgffiihbdppaa
/- What package laurent's functions are to answer. -/
namespace Go.Proofs.Ytndgffiihbdppaa
set_option linter.unusedVariables false
set_option linter.unusedSimpArgs false
open Go.RowKit

/-- A polynomial as a value. -/
abbrev PV (lo : Int) (A : Option Addr) (n c : Nat) : Value := .agg #[.int .i64 lo, .slice A n c]
/-- The slice lies in memory that w has not. -/
def NewA (w : World) (A : Option Addr) (n : Nat) : Prop := 0 < n → ∀ ad, A = some ad → w.heap.size ≤ ad.block
theorem SL.setCell {w : World} {A : Option Addr} {n c : Nat} {xs : List Int} (h : SL w A n c xs) {b : Nat} (hb : 0 < n → ∀ ad, A = some ad → ad.block ≠ b) (i : Nat) (v : Value) : SL (w.setCell ⟨b, i, none⟩ v) A n c xs :=
  ⟨⟨h.il.len, h.il.small, fun hn => by
    obtain ⟨ad, e, hl, hc⟩ := h.il.mem hn
    refine ⟨ad, e, by simpa using hl, fun j hj => ?_⟩
    rw [← hc j hj]
    exact World.cell?_setCell_other (w := w) (a := ⟨b, i, none⟩) (b := ad.add j) v (by intro e2; exact hb hn ad e (by have := congrArg Addr.block e2; rw [block_of_add] at this; exact this.symm))⟩, h.nil, h.cap⟩
/-- A polynomial and an error. -/
def GivesPE (w : World) (r : LP.PR) (e : Ending) (w' : World) : Prop :=
  ∃ A n c, e = .returned (.tuple #[PV r.2.1 A n c, .int .i64 r.1]) ∧ SL w' A n c r.2.2 ∧ NewA w A n ∧ Below w.heap.size w w'
/-- A polynomial. -/
def GivesP (w : World) (lo : Int) (cs : List Int) (e : Ending) (w' : World) : Prop :=
  ∃ A n c, e = .returned (PV lo A n c) ∧ SL w' A n c cs ∧ NewA w A n ∧ Below w.heap.size w w'

/-- Package laurent, as the document asks. -/
structure PolyC : Prop where
  check : ∀ (la : Int) (A : Option Addr) (n c : Nat) (xs : List Int) (w : World), SL w A n c xs → (Lit.int .i64 la).wf = true → Calls Try.prog 53 #[PV la A n c] w fun e w' => e = .returned (.int .i64 (LP.pfl la xs)) ∧ Below w.heap.size w w'
  add : ∀ (la : Int) (A : Option Addr) (n c : Nat) (xs : List Int) (lb : Int) (B : Option Addr) (m d : Nat) (ys : List Int) (w : World), SL w A n c xs → SL w B m d ys → (Lit.int .i64 la).wf = true → (Lit.int .i64 lb).wf = true → Calls Try.prog 80 #[PV la A n c, PV lb B m d] w (GivesPE w (LP.addR la xs lb ys))
  sub : ∀ (la : Int) (A : Option Addr) (n c : Nat) (xs : List Int) (lb : Int) (B : Option Addr) (m d : Nat) (ys : List Int) (w : World), SL w A n c xs → SL w B m d ys → (Lit.int .i64 la).wf = true → (Lit.int .i64 lb).wf = true → Calls Try.prog 81 #[PV la A n c, PV lb B m d] w (GivesPE w (LP.subR la xs lb ys))
  mul : ∀ (la : Int) (A : Option Addr) (n c : Nat) (xs : List Int) (lb : Int) (B : Option Addr) (m d : Nat) (ys : List Int) (w : World), SL w A n c xs → SL w B m d ys → (Lit.int .i64 la).wf = true → (Lit.int .i64 lb).wf = true → Calls Try.prog 51 #[PV la A n c, PV lb B m d] w (GivesPE w (LP.mulR la xs lb ys))
  eval : ∀ (la : Int) (A : Option Addr) (n c : Nat) (xs : List Int) (x : Int) (w : World), SL w A n c xs → (Lit.int .i64 la).wf = true → (Lit.int .i64 x).wf = true → Calls Try.prog 18 #[PV la A n c, .int .i64 x] w fun e w' => e = .returned (.tuple #[.int .i64 (LP.evalV la xs x), .int .i64 (LP.evalE la xs x)]) ∧ Below w.heap.size w w'
  conj : ∀ (la : Int) (A : Option Addr) (n c : Nat) (xs : List Int) (w : World), SL w A n c xs → (Lit.int .i64 la).wf = true → Calls Try.prog 21 #[PV la A n c] w (GivesPE w (LP.conjR la xs))
  norm : ∀ (la : Int) (A : Option Addr) (n c : Nat) (xs : List Int) (w : World), SL w A n c xs → (Lit.int .i64 la).wf = true → Calls Try.prog 22 #[PV la A n c] w (GivesPE w (LP.normR la xs))

/-- The result of a function whose result is a polynomial in a block. -/
theorem results_poly {fn : Func} {t : Tmp} {b : Nat} {v0 v1 : Value} {w : World} (h : fn.results = #[.cell t 36]) (tmps : Array Value) (ht : tmps.getD t undef = .pointer (some ⟨b, 0, none⟩)) (hb : Blk w b 36 #[v0, v1]) :
    (results fn tmps).run Try.prog w = .ok (.agg #[v0, v1]) w := by
  have h0 := hb.cell 0
  have h1 := hb.cell 1
  simp at h0 h1
  have ht2 : tmps[t]?.getD undef = .pointer (some ⟨b, 0, none⟩) := by simpa using ht
  simp [results, h, ht2, go_sem, h0, h1, Result.andThen]

set_option maxRecDepth 100000 in
set_option maxHeartbeats 2000000 in
theorem same_k (la : Int) (A : Option Addr) (n c : Nat) (xs : List Int) (lb : Int) (B : Option Addr) (m d : Nat) (ys : List Int) (w : World) (ha : SL w A n c xs) (hb : SL w B m d ys) :
    Calls Try.prog 24 #[PV la A n c, PV lb B m d] w fun e w' => e = .returned (.bool (decide (la = lb) && eqB xs ys)) ∧ Below w.heap.size w w' := by
  have h1 : Below w.heap.size w ((w.alloc (.cells #[.int .i64 la, .slice A n c] 36)).alloc (.cells #[.int .i64 lb, .slice B m d] 36)) := ((Below.refl _ _).alloc (Nat.le_refl _) _).alloc (by simp) _
  have HB0 := hide h1
  have HE := hide (equal_any A B n m c d xs ys _ (ha.il.below h1) (hb.il.below h1))
  clear ha hb h1
  by_cases h : la = lb
  · subst h
    rw [show (decide (la = la) && eqB xs ys) = eqB xs ys by simp]
    obtain ⟨q, hq⟩ : ∃ q, eqB xs ys = q := ⟨_, rfl⟩
    rw [hq] at HE ⊢
    clear hq
    go_enter Try.func24, Try.ntmps24
    go_wp2_with fail
    refine HE.out.mono ?_
    rintro e w1 ⟨rfl, hb⟩
    have HB1 := hide (HB0.out.trans (hb.mono HB0.out.size))
    clear hb
    go_wp2_with fail
    go_ret
    exact ⟨rfl, HB1.out⟩
  · have hd : (la == lb) = false := by simpa using h
    rw [show (decide (la = lb) && eqB xs ys) = false by simp [h]]
    go_enter Try.func24, Try.ntmps24
    go_wp2_with fail
    go_ret
    exact ⟨rfl, HB0.out⟩

end Go.Proofs.Ytndgffiihbdppaa
/- timbmake.Poly. -/
namespace Go.Proofs.Ytndgffiihbdppaa
set_option linter.unusedVariables false
set_option linter.unusedSimpArgs false
open Go.RowKit

def lenV : Value → Nat
  | .slice _ n _ => n
  | _ => 0
theorem LP.of_zeros {C : List Int} (lo : Int) (h : ∀ j, j < C.length → C.getD j 0 = 0) : LP.of 0 [] = LP.of lo C := LP.ext fun k => by
  rw [LP.co_of, LP.co_of]
  rw [if_neg (by simp only [List.length_nil]; omega)]
  split
  · next hk => rw [h _ (by omega)]
  · rfl
theorem LP.of_trim {C : List Int} (lo : Int) {i m : Nat} (him : i + m ≤ C.length) (h1 : ∀ j, j < i → C.getD j 0 = 0) (h2 : ∀ j, i + m ≤ j → j < C.length → C.getD j 0 = 0) : LP.of (lo + i) ((C.drop i).take m) = LP.of lo C := LP.ext fun k => by
  have hl : ((C.drop i).take m).length = m := by simp; omega
  rw [LP.co_of, LP.co_of, hl]
  by_cases hk : lo + i ≤ k ∧ k < lo + i + m
  · rw [if_pos hk, if_pos (by omega)]
    simp only [List.getD_eq_getElem?_getD, List.getElem?_take, List.getElem?_drop]
    rw [if_pos (by omega), show i + (k - (lo + i)).toNat = (k - lo).toNat by omega]
  · rw [if_neg hk]
    split
    · next h =>
      by_cases h3 : k < lo + i
      · exact (h1 _ (by omega)).symm
      · exact (h2 _ (by omega) (by omega)).symm
    · rfl
theorem SL.tail_ {w : World} {ad : Addr} {m d : Nat} {xs : List Int} (h : SL w (some ad) m d xs) (hm : 0 < m) : SL w (if d = 1 then some ad else some ⟨ad.block, ad.off + 1, none⟩) (m - 1) (d - 1) (xs.drop 1) := by
  have hc := h.cap
  have hl := h.il.len
  by_cases hd : d = 1
  · rw [if_pos hd]
    refine ⟨⟨by rw [List.length_drop]; omega, by have := h.il.small; omega, fun h0 => by omega⟩, fun e => (by cases e), by omega⟩
  · have h2 := h.il.cut (l := 1) (h := m) (by omega) (Nat.le_refl _) hc
    unfold cutA at h2
    rw [if_neg hd] at h2
    rw [if_neg hd]
    have e : (some ad).map (·.add 1) = some (⟨ad.block, ad.off + 1, none⟩ : Addr) := by simp [Addr.add]
    rw [e, List.take_of_length_le (by rw [List.length_drop]; omega)] at h2
    exact ⟨h2, fun e => (by cases e), by omega⟩
theorem SL.init_ {w : World} {A : Option Addr} {m d k : Nat} {xs : List Int} (h : SL w A m d xs) (hk : k ≤ m) (hA : A ≠ none) : SL w A k d (xs.take k) := ⟨h.il.pre hk, fun e => absurd e hA, by have := h.cap; omega⟩

end Go.Proofs.Ytndgffiihbdppaa
/- Sums and products of small polynomials fit. -/
namespace Go.Proofs.Ytndgffiihbdppaa
set_option linter.unusedVariables false
set_option linter.unusedSimpArgs false
open Go.RowKit
namespace LP
/-- A right polynomial. -/
def Rt (x : LP) : Prop := pfl (canon x).1 (canon x).2 = 0
theorem mulR_canon {x y : LP} (hx : Rt x) (hy : Rt y) (h : Rt (x * y)) : mulR (canon x).1 (canon x).2 (canon y).1 (canon y).2 = (0, (canon (x * y)).1, (canon (x * y)).2) := by
  unfold Rt at *
  unfold mulR two2
  rw [if_pos hx, if_pos hy, of_canon, of_canon, fit_ok h]
theorem addR_canon {x y : LP} (hx : Rt x) (hy : Rt y) (h : Rt (x + y)) : addR (canon x).1 (canon x).2 (canon y).1 (canon y).2 = (0, (canon (x + y)).1, (canon (x + y)).2) := by
  unfold Rt at *
  unfold addR two2
  rw [if_pos hx, if_pos hy, of_canon, of_canon, fit_ok h]
theorem Rt.wf {x : LP} (h : Rt x) : (Lit.int .i64 (canon x).1).wf = true := by
  obtain ⟨_, h1, h2, _⟩ := pfl_zero h
  have h3 : IntKind.i64.min = -9223372036854775808 := by decide
  simp [Lit.wf, h3]
  omega
end LP
end Go.Proofs.Ytndgffiihbdppaa
/- Values, conjugates and normal forms of small polynomials. -/
namespace Go.Proofs.Ytndgffiihbdppaa
set_option linter.unusedVariables false
set_option linter.unusedSimpArgs false
open Go.RowKit
namespace LP
theorem evalR_canon {x : LP} (hx : Rt x) {u : Int} (hu : u = 1 ∨ u = -1) : evalE (canon x).1 (canon x).2 u = 0 ∧ evalV (canon x).1 (canon x).2 u = ev (decide (u = -1)) x := by
  unfold Rt at hx
  have h : evalE (canon x).1 (canon x).2 u = 0 := by unfold evalE; rw [if_pos hx, if_pos hu]
  refine ⟨h, ?_⟩
  unfold evalV
  rw [if_pos h, of_canon]
theorem pw_cases (neg : Bool) (e : Int) : pw neg e = 1 ∨ pw neg e = -1 := by unfold pw; split <;> simp
/-- A unit. -/
theorem canon_term (e s : Int) (hs : s = 1 ∨ s = -1) : canon (of e [s]) = (e, [s]) := canon_of (.inr ⟨by simp, by rcases hs with rfl | rfl <;> decide, by rcases hs with rfl | rfl <;> decide⟩)
theorem of_one (e s : Int) : of e [s] = term e s := by show term e s + 0 = _; rw [CR.add_zero]
end LP
end Go.Proofs.Ytndgffiihbdppaa
/- Free derivatives: exponents, the derivative of a word, the rule of a product, and t^e - 1 as a sum of derivatives. -/
namespace Go.Proofs.Ytndgffiihbdppaa
set_option linter.unusedVariables false
set_option linter.unusedSimpArgs false
namespace LP

/-- The exponent of a word. -/
def expo (w : List Int) : Int := wsum Int.sign w
theorem sign_le (x : Int) : (Int.sign x).natAbs ≤ 1 := by
  rcases Int.lt_trichotomy x 0 with h | h | h
  · rw [Int.sign_eq_neg_one_of_neg h]; decide
  · subst h; decide
  · rw [Int.sign_eq_one_of_pos h]; decide
theorem expo_nil : expo [] = 0 := rfl
theorem expo_cons (x : Int) (w : List Int) : expo (x :: w) = Int.sign x + expo w := by simp [expo, wsum]
theorem expo_append (u v : List Int) : expo (u ++ v) = expo u + expo v := wsum_append _ u v
theorem expo_le : ∀ w : List Int, (expo w).natAbs ≤ w.length
  | [] => by decide
  | x :: w => by
    rw [expo_cons, List.length_cons]
    have := sign_le x
    have := expo_le w
    omega

/-- The derivative of a letter. -/
def dx (i x : Int) : LP := if x = i then 1 else if x = -i then term (-1) (-1) else 0
/-- The derivative of a word. -/
def foxT (i : Int) : List Int → LP
  | [] => 0
  | x :: w => dx i x + term (Int.sign x) 1 * foxT i w
theorem term_mul (e f c d : Int) : term e c * term f d = term (e + f) (c * d) := ext fun k => by
  rw [co_term_mul, co_term, co_term]
  by_cases h : f = k - e
  · rw [if_pos h, if_pos (by omega)]
  · rw [if_neg h, if_neg (by omega), Int.mul_zero]
theorem Sm.term (e c : Int) {l h : Int} {B : Nat} (h1 : l ≤ e) (h2 : e ≤ h) (h3 : c.natAbs ≤ B) : Sm (term e c) l h B :=
  ⟨fun k hk => by
    rw [co_term] at hk
    by_cases he : e = k
    · omega
    · rw [if_neg he] at hk; exact absurd rfl hk,
  fun k => by
    rw [co_term]
    split
    · exact h3
    · exact Nat.zero_le _⟩
theorem Sm.zero {l h : Int} {B : Nat} : Sm 0 l h B := ⟨fun k hk => absurd (co_zero k) hk, fun k => by rw [co_zero]; exact Nat.zero_le _⟩
/-- t - 1. -/
def less : LP := term 1 1 + -1
/-- The sum of the first derivatives times t - 1. -/
def part (w : List Int) : Nat → LP
  | 0 => 0
  | k + 1 => part w k + foxT ((k : Int) + 1) w * less
end LP
end Go.Proofs.Ytndgffiihbdppaa
/- Laurent polynomials as short sums of terms: exponents within E, absolute values of coefficients that add up to at most V. -/
namespace Go.Proofs.Ytndgffiihbdppaa
set_option linter.unusedVariables false
set_option linter.unusedSimpArgs false
namespace LP

def sumA : List Tm → Nat
  | [] => 0
  | p :: l => p.2.natAbs + sumA l
theorem sumA_append : ∀ a b : List Tm, sumA (a ++ b) = sumA a + sumA b
  | [], b => by simp [sumA]
  | p :: a, b => by
    show p.2.natAbs + sumA (a ++ b) = p.2.natAbs + sumA a + sumA b
    rw [sumA_append a b, Nat.add_assoc]
theorem sumA_scale (e c : Int) : ∀ l : List Tm, sumA (scaleT e c l) = c.natAbs * sumA l
  | [] => rfl
  | p :: l => by
    show (c * p.2).natAbs + sumA (scaleT e c l) = c.natAbs * (p.2.natAbs + sumA l)
    rw [sumA_scale e c l, Nat.mul_add, Int.natAbs_mul]
theorem sumA_mul (b : List Tm) : ∀ a : List Tm, sumA (mulT a b) = sumA a * sumA b
  | [] => by
    show 0 = 0 * sumA b
    rw [Nat.zero_mul]
  | p :: a => by
    rw [mulT_cons, sumA_append, sumA_scale, sumA_mul b a]
    show _ = (p.2.natAbs + sumA a) * sumA b
    rw [Nat.add_mul]
theorem coefT_sumA (k : Int) : ∀ l : List Tm, (coefT l k).natAbs ≤ sumA l
  | [] => Nat.le_refl _
  | p :: l => by
    have h := coefT_sumA k l
    show ((if p.1 = k then p.2 else 0) + coefT l k).natAbs ≤ p.2.natAbs + sumA l
    split <;> omega

/-- A short sum of terms. -/
def N1 (x : LP) (E V : Nat) : Prop := ∃ l : List Tm, mk l = x ∧ (∀ p ∈ l, p.1.natAbs ≤ E) ∧ sumA l ≤ V
theorem N1.mono {x : LP} {E V E' V' : Nat} (h : N1 x E V) (h1 : E ≤ E') (h2 : V ≤ V') : N1 x E' V' := by
  obtain ⟨l, e, hk, hv⟩ := h
  exact ⟨l, e, fun p hp => Nat.le_trans (hk p hp) h1, Nat.le_trans hv h2⟩
theorem N1.zero : N1 0 0 0 := ⟨[], rfl, fun p hp => by simp at hp, Nat.le_refl _⟩
theorem N1.term (e c : Int) : N1 (LP.term e c) e.natAbs c.natAbs := ⟨[(e, c)], rfl, fun p hp => by simp at hp; subst hp; exact Nat.le_refl _, by simp [sumA]⟩
theorem N1.one : N1 1 0 1 := N1.term 0 1
theorem N1.add {x y : LP} {E V V' : Nat} (hx : N1 x E V) (hy : N1 y E V') : N1 (x + y) E (V + V') := by
  obtain ⟨a, rfl, h1, h2⟩ := hx
  obtain ⟨b, rfl, h3, h4⟩ := hy
  refine ⟨a ++ b, rfl, fun p hp => ?_, by rw [sumA_append]; omega⟩
  rcases List.mem_append.1 hp with h | h
  · exact h1 p h
  · exact h3 p h
theorem N1.neg {x : LP} {E V : Nat} (hx : N1 x E V) : N1 (-x) E V := by
  obtain ⟨a, rfl, h1, h2⟩ := hx
  refine ⟨scaleT 0 (-1) a, rfl, fun p hp => ?_, by rw [sumA_scale, show (-1 : Int).natAbs = 1 from rfl]; omega⟩
  obtain ⟨q, hq, rfl⟩ := List.mem_map.1 hp
  have := h1 q hq
  show (0 + q.1).natAbs ≤ E
  rw [Int.zero_add]; exact this
theorem N1.mul {x y : LP} {E V E' V' : Nat} (hx : N1 x E V) (hy : N1 y E' V') : N1 (x * y) (E + E') (V * V') := by
  obtain ⟨a, rfl, h1, h2⟩ := hx
  obtain ⟨b, rfl, h3, h4⟩ := hy
  refine ⟨mulT a b, rfl, fun p hp => ?_, by rw [sumA_mul]; exact Nat.mul_le_mul h2 h4⟩
  obtain ⟨q, hq, hp⟩ := List.mem_flatMap.1 hp
  obtain ⟨r, hr, rfl⟩ := List.mem_map.1 hp
  have := h1 q hq
  have := h3 r hr
  show (q.1 + r.1).natAbs ≤ E + E'
  omega
theorem N1.co {x : LP} {E V : Nat} (h : N1 x E V) (k : Int) : (LP.co x k).natAbs ≤ V := by
  obtain ⟨l, rfl, _, hv⟩ := h
  exact Nat.le_trans (coefT_sumA k l) hv
theorem N1.supp {x : LP} {E V : Nat} (h : N1 x E V) {k : Int} (hk : LP.co x k ≠ 0) : k.natAbs ≤ E := by
  obtain ⟨l, rfl, h1, _⟩ := h
  by_cases hm : ∀ p ∈ l, p.1 ≠ k
  · exact absurd (sumT_out k l hm) hk
  · obtain ⟨p, hp⟩ := Classical.not_forall.1 hm
    obtain ⟨hp, e⟩ := Classical.not_imp.1 hp
    have := h1 p hp
    rw [Classical.not_not.1 e] at this
    exact this
theorem N1.sm {x : LP} {E V : Nat} (h : N1 x E V) : Sm x (-(E : Int)) E V := ⟨fun k hk => by have := h.supp hk; omega, h.co⟩
theorem N1.rt {x : LP} {E V : Nat} (h : N1 x E V) (h1 : E ≤ 99) (h2 : V ≤ 100000000) : Rt x := h.sm.pfl (by omega) (by omega) (by omega) h2
theorem N1.sumN {f : Nat → LP} {E V : Nat} : ∀ {n : Nat}, (∀ i, i < n → N1 (f i) E V) → N1 (CR.sumN n f) E (n * V)
  | 0, _ => N1.zero.mono (Nat.zero_le _) (Nat.zero_le _)
  | n + 1, h => by
    rw [CR.sumN_succ, Nat.succ_mul]
    exact (N1.sumN fun i hi => h i (by omega)).add (h n (by omega))
theorem N1.sgR (j : Nat) : N1 (CR.sgR LP j) 0 1 := by
  unfold CR.sgR
  split
  · exact N1.one
  · exact N1.one.neg
def fctP : Nat → Nat
  | 0 => 1
  | n + 1 => (n + 1) * fctP n
theorem N1.detR {E V : Nat} : ∀ {n : Nat} {M : Mtx LP}, (∀ i, i < n → ∀ j, j < n → N1 (M i j) E V) → N1 (Proofs.Ytndgffiihbdppaa.detR n M) (n * E) (fctP n * V ^ n)
  | 0, M, _ => by
    show N1 1 (0 * E) (1 * V ^ 0)
    rw [Nat.zero_mul, Nat.pow_zero]
    exact N1.one
  | n + 1, M, h => by
    have h1 : ∀ j, j < n + 1 → N1 (CR.sgR LP j * (M 0 j * Proofs.Ytndgffiihbdppaa.detR n fun a b => M (a + 1) (CR.skip j b))) ((n + 1) * E) (V * (fctP n * V ^ n)) := fun j hj => by
      have h2 := (N1.sgR j).mul ((h 0 (by omega) j hj).mul (N1.detR (M := fun a b => M (a + 1) (CR.skip j b)) fun i hi k hk => h (i + 1) (by omega) _ (skip_lt hk)))
      refine h2.mono ?_ ?_
      · rw [Nat.succ_mul]; omega
      · rw [Nat.one_mul]; exact Nat.le_refl _
    have h3 := N1.sumN h1
    refine N1.mono (x := CR.sumN (n + 1) _) h3 (Nat.le_refl _) (Nat.le_of_eq ?_)
    show (n + 1) * (V * (fctP n * V ^ n)) = (n + 1) * fctP n * V ^ (n + 1)
    rw [Nat.pow_succ]
    ac_rfl
end LP
end Go.Proofs.Ytndgffiihbdppaa
