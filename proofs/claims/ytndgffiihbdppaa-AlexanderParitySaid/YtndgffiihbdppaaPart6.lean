/- Several texts in one. -/
import Derived.Test.YtndgffiihbdppaaPart5
import Derived.Test.YtndgffiihbdppaaPart3
import Derived.Test.YtndgffiihbdppaaBase1
import Derived.Test.YtndgffiihbdppaaPart2
import Derived.Test.YtndgffiihbdppaaPart1
import Derived.Test.YtndgffiihbdppaaProg
import Derived.WalkKit
import Derived.Deep.QuietTactic
import Derived.BigQuiet
import Derived.WalkSpells
import Derived.WalkLawsBesides
import Derived.Outline
import Derived.BigRegion
/- What package link is to answer. -/
namespace Go.Proofs.Ytndgffiihbdppaa
set_option linter.unusedVariables false
set_option linter.unusedSimpArgs false
open Go.RowKit

/-- The components of a closed braid. -/
def lkL (n : Int) (w : List Int) : List (List Int) := if bfault n w = 0 then (prtL (endsL n.toNat w)).map zs else []
/-- Where the component of a strand stands. -/
def lkAt (a : List Nat) (s : Nat) : Nat := (prtL a).findIdx fun c => decide (s ∈ c)
/-- The strand at a position behind a word. -/
def lkS (n : Nat) (w : List Int) (p : Nat) : Nat := (endsL n w).idxOf p
/-- What the crossings between two components add up to, each counted from both sides. -/
def lkSum (n : Nat) (a : List Nat) (i k : Nat) : List Int → List Int → Int
  | _, [] => 0
  | u, x :: w =>
    let s := lkAt a (lkS n u (x.natAbs - 1))
    let t := lkAt a (lkS n u x.natAbs)
    ((if s = i ∧ t = k then x.sign else 0) + (if t = i ∧ s = k then x.sign else 0)) + lkSum n a i k (u ++ [x]) w
/-- The linking numbers. -/
def lkM (n : Int) (w : List Int) : List (List Int) :=
  if bfault n w = 0 then (List.range (prtL (endsL n.toNat w)).length).map fun i => (List.range (prtL (endsL n.toNat w)).length).map fun k => (lkSum n.toNat (endsL n.toNat w) i k [] w).tdiv 2 else []
def lkK (n : Int) (w : List Int) : Bool := decide (bfault n w = 0) && decide ((prtL (endsL n.toNat w)).length = 1)
/-- Lists of lists and an error. -/
def GivesLK (w : World) (err : Int) (xss : List (List Int)) (e : Ending) (w' : World) : Prop :=
  ∃ A n c, e = .returned (.tuple #[.slice A n c, .int .i64 err]) ∧ SLL w' A n c xss ∧ Below w.heap.size w w'
/-- Package link, as the document asks. -/
structure LinkC : Prop where
  parts : ∀ (m : Int) (A : Option Addr) (n c : Nat) (xs : List Int) (w : World), SL w A n c xs → (Lit.int .i64 m).wf = true → Calls Try.prog 8 #[.int .i64 m, .slice A n c] w (GivesLK w (bfault m xs) (lkL m xs)) -- 8
  link : ∀ (m : Int) (A : Option Addr) (n c : Nat) (xs : List Int) (w : World), SL w A n c xs → (Lit.int .i64 m).wf = true → Calls Try.prog 9 #[.int .i64 m, .slice A n c] w (GivesLK w (bfault m xs) (lkM m xs)) -- 9
  knot : ∀ (m : Int) (A : Option Addr) (n c : Nat) (xs : List Int) (w : World), SL w A n c xs → (Lit.int .i64 m).wf = true → Calls Try.prog 10 #[.int .i64 m, .slice A n c] w fun e w' => e = .returned (.tuple #[.bool (lkK m xs), .int .i64 (bfault m xs)]) ∧ Below w.heap.size w w' -- 10
theorem lkK_ok {n : Nat} {w : List Int} (h : bfault (n : Int) w = 0) : lkK (n : Int) w = decide ((prtL (endsL n w)).length = 1) := by
  unfold lkK
  rw [decide_eq_true h, Bool.true_and, Int.toNat_natCast]
theorem prtL_le (a : List Nat) : (prtL a).length ≤ a.length := by
  unfold prtL
  rw [List.length_map]
  refine Nat.le_trans (List.length_filter_le _ _) (by rw [List.length_range]; exact Nat.le_refl _)
end Go.Proofs.Ytndgffiihbdppaa
/- timbmake.Strands; timbkeep1.sides. -/
namespace Go.Proofs.Ytndgffiihbdppaa
set_option linter.unusedVariables false
set_option linter.unusedSimpArgs false
open Go.RowKit

/-- Two words that are equal by a relation. -/
structure Side (N : Nat) (xs ys : List Int) : Prop where
  b : RelB xs ys
  e : RelE xs ys
  x : LP.expo xs = LP.expo ys
  ok1 : okB N xs
  ok2 : okB N ys
  l1 : xs.length ≤ 3
  l2 : ys.length ≤ 3
  a : RelA xs ys
end Go.Proofs.Ytndgffiihbdppaa
/- timbkeep1.BraidRelations, for a package braid that answers as it should. (Written by tools/gen_brrel.py.) -/
namespace Go.Proofs.Ytndgffiihbdppaa
set_option linter.unusedVariables false
set_option linter.unusedSimpArgs false
open Go.RowKit

theorem buL_congr {n : Nat} {a b : List Int} (h : EqM n (bu n a) (bu n b)) : buL n a = buL n b := by
  unfold buL
  exact List.map_congr_left fun i hi => List.map_congr_left fun j hj => by rw [h i (List.mem_range.1 hi) j (List.mem_range.1 hj)]
theorem okB_append {n : Nat} {a b : List Int} (ha : okB n a) (hb : okB n b) : okB n (a ++ b) := fun x hx => (List.mem_append.1 hx).elim (ha x) (hb x)
theorem bfault_T {T : Nat} (h5 : T ≤ 5) {a : List Int} (ha : okB (T + 1) a) (hl : a.length ≤ 30) : bfault ((T : Int) + 1) a = 0 :=
  bfault_ok (by omega) (by omega) hl fun x hx => by have := ha x hx; omega
theorem burE_T {T : Nat} (h5 : T ≤ 5) {a : List Int} (ha : okB (T + 1) a) (hl : a.length ≤ 16) : burE ((T : Int) + 1) a = 0 := by
  unfold burE
  rw [bfault_T h5 ha (by omega), if_pos rfl, if_neg (by omega)]
theorem burL_T {T : Nat} (h5 : T ≤ 5) {a : List Int} (ha : okB (T + 1) a) (hl : a.length ≤ 16) : burL ((T : Int) + 1) a = buL (T + 1) a := by
  unfold burL
  rw [burE_T h5 ha hl, if_pos rfl]
  rfl
theorem permE_T {T : Nat} (h5 : T ≤ 5) {a : List Int} (ha : okB (T + 1) a) (hl : a.length ≤ 30) : permE ((T : Int) + 1) a = zs (endsL (T + 1) a) := by
  unfold permE
  rw [bfault_T h5 ha hl, if_pos rfl]
  rfl
theorem expoB_T {T : Nat} (h5 : T ≤ 5) {a : List Int} (ha : okB (T + 1) a) (hl : a.length ≤ 30) : expoB ((T : Int) + 1) a = LP.expo a := by
  unfold expoB
  rw [bfault_T h5 ha hl, if_pos rfl]
theorem expo_app (a b : List Int) : LP.expo (a ++ b) = LP.expo a + LP.expo b := wsum_append _ _ _
/-- What is alike in two words that are equal by a relation. -/
structure Alike (T : Nat) (a b : List Int) : Prop where
  fa : bfault ((T : Int) + 1) a = 0
  fb : bfault ((T : Int) + 1) b = 0
  ba : burE ((T : Int) + 1) a = 0
  bb : burE ((T : Int) + 1) b = 0
  perm : permE ((T : Int) + 1) a = permE ((T : Int) + 1) b
  expo : expoB ((T : Int) + 1) a = expoB ((T : Int) + 1) b
  bur : burL ((T : Int) + 1) a = burL ((T : Int) + 1) b
  len : (burL ((T : Int) + 1) a).length = T + 1
theorem alike {T : Nat} (h5 : T ≤ 5) {us vs xs ys : List Int} (h : Side (T + 1) xs ys) (hu : okB (T + 1) us) (hv : okB (T + 1) vs) (lu : us.length ≤ 6) (lv : vs.length ≤ 6) : Alike T (us ++ xs ++ vs) (us ++ ys ++ vs) := by
  have oa := okB_append (okB_append hu h.ok1) hv
  have ob := okB_append (okB_append hu h.ok2) hv
  have la : (us ++ xs ++ vs).length ≤ 16 := by simp only [List.length_append]; have := h.l1; omega
  have lb : (us ++ ys ++ vs).length ≤ 16 := by simp only [List.length_append]; have := h.l2; omega
  refine ⟨bfault_T h5 oa (by omega), bfault_T h5 ob (by omega), burE_T h5 oa la, burE_T h5 ob lb, ?_, ?_, ?_, ?_⟩
  · rw [permE_T h5 oa (by omega), permE_T h5 ob (by omega), h.e.ends]
  · rw [expoB_T h5 oa (by omega), expoB_T h5 ob (by omega), expo_app, expo_app, expo_app, expo_app, h.x]
  · rw [burL_T h5 oa la, burL_T h5 ob lb]
    exact buL_congr (h.b.bu h.ok1 h.ok2 us vs)
  · rw [burL_T h5 oa la]
    simp [buL]

end Go.Proofs.Ytndgffiihbdppaa
/- perm.Check. -/
namespace Go.Proofs.Ytndgffiihbdppaa
set_option linter.unusedVariables false
set_option linter.unusedSimpArgs false
open Go.RowKit

/-- The array 'seen': which of 0 to 8 lie in xs. -/
def seenA (xs : List Int) : Array Value := ((List.range 9).map fun j : Nat => Value.bool (decide ((j : Int) ∈ xs))).toArray
theorem seenA_get (xs : List Int) (j : Nat) (hj : j < 9) : (seenA xs)[j]? = some (.bool (decide ((j : Int) ∈ xs))) := by
  simp [seenA, hj]
theorem seenA_set (xs : List Int) (j : Nat) : (seenA xs).setIfInBounds j (.bool true) = seenA (xs ++ [(j : Int)]) := by
  apply Array.ext_getElem?
  intro i
  by_cases hi : i < 9
  · rw [seenA_get _ i hi, Array.getElem?_setIfInBounds]
    by_cases hij : j = i
    · subst hij
      have : j < (seenA xs).size := by simp [seenA]; omega
      simp [this]
    · rw [if_neg hij, seenA_get _ i hi]
      have : ¬ ((i : Int) = (j : Int)) := by omega
      simp [this]
  · rw [Array.getElem?_eq_none (by simp [seenA]; omega), Array.getElem?_eq_none (by simp [seenA]; omega)]

theorem pf_big {xs : List Int} (h : 9 < xs.length) : pf xs = 2 := by unfold pf; rw [if_pos h]
theorem pf_small {xs : List Int} (h : xs.length ≤ 9) : pf xs = pfGo xs.length [] xs := by unfold pf; rw [if_neg (by omega)]
theorem take_snoc (xs : List Int) (k : Nat) (h : k < xs.length) : xs.take (k + 1) = xs.take k ++ [xs.getD k 0] := by
  rw [List.take_succ_eq_append_getElem h]
  simp [List.getD, List.getElem?_eq_getElem h]

set_option maxHeartbeats 1000000 in
theorem check_any (A : Option Addr) (n c : Nat) (xs : List Int) (w : World) (ha : IL w A n xs) :
    Calls Try.prog 67 #[.slice A n c] w fun e w' => e = .returned (.int .i64 (pf xs)) ∧ Below w.heap.size w w' := by
  have hna := ha.small
  have HL := hide ha.len
  by_cases h9 : 9 < n
  · have HE := hide (pf_big (xs := xs) (by have := HL.out; omega))
    clear ha
    go_enter Try.func67, Try.ntmps67
    go_wp2
    go_ret
    rw [HE.out]
    exact ⟨rfl, Below.refl _ _⟩
  · go_enter Try.func67, Try.ntmps67
    go_wp2
    go_loopw [11] (fun i wr => ∃ k : Nat, k ≤ n ∧ i = .int .i64 k ∧ Hid (pf xs = pfGo xs.length (xs.take k) (xs.drop k)) ∧ Blk wr w.heap.size 77 (seenA (xs.take k)) ∧ Below w.heap.size w wr) (fun i _ => n - (intOf i).toNat)
    case atStart => exact ⟨0, Nat.zero_le _, rfl, pf_small (by have := HL.out; omega), Blk.new _ _ _, (Below.refl _ _).alloc (Nat.le_refl _) _⟩
    case round =>
      obtain ⟨k, hk, rfl, hpf, hblk, hnx⟩ := hrel
      have ha' := ha.below hnx
      by_cases hlt : k < n
      · obtain ⟨ad, rfl, hca⟩ := ha'.at_ hlt
        have HT := hide (take_snoc xs k (by have := HL.out; omega))
        have HP := hide (pf_step (xs := xs) (k := k) (by have := HL.out; omega))
        clear ha ha'
        generalize xs.getD k 0 = x at *
        by_cases h1 : x < 0
        · have HE : Hid (pf xs = 1) := by rw [hpf.out, HP.out, if_pos (.inl h1)]; exact rfl
          go_wp2
          go_ret
          rw [HE.out]
          exact ⟨rfl, hnx⟩
        · by_cases h2 : (n : Int) ≤ x
          · have HE : Hid (pf xs = 1) := by rw [hpf.out, HP.out, if_pos (.inr (by rw [HL.out]; exact h2))]; exact rfl
            go_wp2
            go_ret
            rw [HE.out]
            exact ⟨rfl, hnx⟩
          · obtain ⟨u, rfl⟩ : ∃ u : Nat, x = (u : Int) := ⟨x.toNat, by omega⟩
            have hu9 : u < 9 := by omega
            have hun : u < n := by omega
            have hcell := (hblk.cell u).trans (seenA_get _ u hu9)
            have hfr := hblk.frozen u
            by_cases h3 : (u : Int) ∈ xs.take k
            · have HE : Hid (pf xs = 5) := by rw [hpf.out, HP.out, if_neg (by rw [HL.out]; omega), if_pos h3]; exact rfl
              rw [decide_eq_true h3] at hcell
              clear h3
              go_wp2
              go_ret
              rw [HE.out]
              exact ⟨rfl, hnx⟩
            · have HE : Hid (pf xs = pfGo xs.length (xs.take (k + 1)) (xs.drop (k + 1))) := by rw [hpf.out, HP.out, if_neg (by rw [HL.out]; omega), if_neg h3]; exact rfl
              rw [decide_eq_false h3] at hcell
              clear h3
              go_wp2
              go_roundw
              case rel => exact ⟨k + 1, by omega, by go_num, HE, by rw [HT.out, ← seenA_set]; exact hblk.set_ _ _, hnx.setCell (Nat.le_refl _) _⟩
              case measure => simp [intOf]; omega
      · have HE : Hid (pf xs = 0) := by rw [hpf.out, pf_end xs _ k (by rw [HL.out]; omega)]; exact rfl
        go_wp2
        go_ret
        rw [HE.out]
        exact ⟨rfl, hnx⟩
end Go.Proofs.Ytndgffiihbdppaa
/- Compose, Inverse, and the law's own compose. -/
namespace Go.Proofs.Ytndgffiihbdppaa
set_option linter.unusedVariables false
set_option linter.unusedSimpArgs false
open Go.RowKit

/-- A slice in new memory, and no error. -/
def GivesOwn0 (w : World) (xs : List Int) (e : Ending) (w' : World) : Prop :=
  ∃ A n c, e = .returned (.tuple #[.slice A n c, .int .i64 0]) ∧ OwnI w' w.heap.size A n c xs ∧ Below w.heap.size w w'

end Go.Proofs.Ytndgffiihbdppaa
/- timbkeep1.AlexanderParity, for packages alexander, braid and link that answer as they should. (Written by tools/gen_asym.py.) -/
namespace Go.Proofs.Ytndgffiihbdppaa
set_option linter.unusedVariables false
set_option linter.unusedSimpArgs false
open Go.RowKit

set_option maxRecDepth 100000 in
set_option maxHeartbeats 8000000 in
theorem alexPar_any (F : AlexC) (FB : BraidC) (FL : LinkC) (nn : Int) (A : Option Addr) (n c : Nat) (us : List Int) (w : World) (ha : SL w A n c us) :
    Calls Try.prog 6 #[.int .i64 nn, .slice A n c] w fun e w' => e = .returned (.bool true) ∧ Below w.heap.size w w' := by
  have HAK := hide (alexandered_k F)
  have HF := hide F
  have HFB := hide FB
  have HFL := hide FL
  clear F FB FL
  have HA := hide ha
  clear ha
  go_enter Try.func6, Try.ntmps6
  go_wp2_with fail
  refine (strands_gen nn 5 6 rfl (by omega) (by omega) w).mono ?_
  rintro e w0 ⟨T, hT1, hT5, rfl, hww⟩
  subst hww
  have hw1 : IntKind.i64.wrap (T : Int) = (T : Int) := by rw [IntKind.wrap_i64]; omega
  have hs1 : (T : Int) + 1 - 1 = (T : Int) := by omega
  go_wp2_with fail
  refine (word_any A T n c 16 us w HA.out.il HA.out.cap (by omega) (by omega) (by omega)).mono ?_
  rintro e w1 ⟨xs, X, xn, xc, rfl, ho, hx, hxn, hb⟩
  have hxl := ho.len
  have SX := hide ho.sl
  have HW := hide hb
  clear ho hb HA
  have hok : okB (T + 1) xs := fun x hx' => by have := hx x hx'; omega
  obtain ⟨N, hN⟩ : ∃ N, T + 1 = N := ⟨_, rfl⟩
  rw [hN] at hok
  have hTi : (T : Int) + 1 = (N : Int) := by omega
  rw [hTi]
  have hN2 : 2 ≤ N := by omega
  have hN6 : N ≤ 6 := by omega
  have HWM := hide (wfI (x := (N : Int)) (by omega))
  have HAF : Hid (alF (N : Int) xs) := hide (alF_short (by omega))
  have hbf : bfault (N : Int) xs = 0 := bfault_ok (by omega) (by omega) (by omega) fun y hy => by have := hok y hy; omega
  have HBF := hide hbf
  have HAE := hide (alE_ok hbf (show xs.length ≤ 20 by omega))
  have hokI : okB N (invw xs) := okB_invw hok
  have hlI : (invw xs).length ≤ 16 := by simp only [invw, List.length_reverse, List.length_map]; omega
  have HFI : Hid (alF (N : Int) (invw xs)) := hide (alF_short hlI)
  have hbfI : bfault (N : Int) (invw xs) = 0 := bfault_ok (by omega) (by omega) (by omega) fun y hy => by have := hokI y hy; omega
  have HAEI := hide (alE_ok hbfI (show (invw xs).length ≤ 20 by omega))
  have HKN := hide (lkK_ok hbf)
  have HIV : Hid (invB (N : Int) xs = invw xs) := hide (by unfold invB; rw [if_pos hbf])
  obtain ⟨h1, h2, h3⟩ : alD (N : Int) (invw xs) = alD (N : Int) xs ∧ 0 ≤ alD (N : Int) xs ∧ alD (N : Int) xs % 2 = if (prtL (endsL N xs)).length = 1 then 1 else 0 := by
    obtain ⟨M, rfl⟩ : ∃ M, N = M + 1 := ⟨N - 1, by omega⟩
    exact alex_par (by omega) (by omega) hok hokI (by omega) hbf hbfI
  have H1 := hide h1
  have H2 := hide h2
  have H3 := hide h3
  clear hok hx hxl hxn hN hTi hT1 hT5 hbf h1 h2 h3 hokI hlI hbfI
  go_wp2_with fail
  refine (HF.out.det (N : Int) X xn xc xs _ SX.out HWM.out HAF.out).mono ?_
  rintro e w21 ⟨rfl, hb⟩
  replace HW := hide (HW.out.trans (hb.mono HW.out.size))
  replace SX := hide (SX.out.below hb)
  rw [HAE.out]
  clear hb
  go_wp2_with fail
  refine (HFL.out.knot (N : Int) X xn xc xs _ SX.out HWM.out).mono ?_
  rintro e w22 ⟨rfl, hb⟩
  replace HW := hide (HW.out.trans (hb.mono HW.out.size))
  replace SX := hide (SX.out.below hb)
  rw [HBF.out, HKN.out]
  clear hb
  go_wp2_with fail
  refine (HFB.out.inverse (N : Int) X xn xc xs _ SX.out HWM.out).mono ?_
  rintro e w23 ⟨V, vn, vc, rfl, hs, hb⟩
  replace HW := hide (HW.out.trans (hb.mono HW.out.size))
  replace SX := hide (SX.out.below hb)
  rw [HIV.out] at hs
  rw [HBF.out]
  have SV := hide hs
  clear hb hs
  go_wp2_with fail
  refine (HF.out.det (N : Int) V vn vc (invw xs) _ SV.out HWM.out HFI.out).mono ?_
  rintro e w24 ⟨rfl, hb⟩
  replace HW := hide (HW.out.trans (hb.mono HW.out.size))
  replace SX := hide (SX.out.below hb)
  replace SV := hide (SV.out.below hb)
  rw [HAEI.out, H1.out]
  clear hb
  go_wp2_with fail
  refine (HAK.out _).mono ?_
  rintro e w25 ⟨rfl, hb⟩
  replace HW := hide (HW.out.trans (hb.mono HW.out.size))
  replace SX := hide (SX.out.below hb)
  replace SV := hide (SV.out.below hb)
  clear hb
  have h2 := H2.out
  have h3 := H3.out
  have htm : (alD (N : Int) xs).tmod 2 = alD (N : Int) xs % 2 := Int.tmod_eq_emod_of_nonneg h2
  clear H1 H2 H3 HAE HAEI HIV HKN HBF
  generalize alD (N : Int) xs = d at *
  by_cases hk : (prtL (endsL N xs)).length = 1
  · rw [if_pos hk] at h3
    rw [h3] at htm
    have hdk : decide ((prtL (endsL N xs)).length = 1) = true := by simpa using hk
    have hd0 : decide (0 ≤ d) = true := by simpa using h2
    rw [hdk]
    clear hk hdk h3
    go_wp2_with fail
    go_ret
    exact ⟨rfl, HW.out⟩
  · rw [if_neg hk] at h3
    rw [h3] at htm
    have hdk : decide ((prtL (endsL N xs)).length = 1) = false := by simpa using hk
    have hd0 : decide (0 ≤ d) = true := by simpa using h2
    rw [hdk]
    clear hk hdk h3
    go_wp2_with fail
    go_ret
    exact ⟨rfl, HW.out⟩
end Go.Proofs.Ytndgffiihbdppaa
/- Linking numbers: what LinkSums says (mathematics). -/
namespace Go.Proofs.Ytndgffiihbdppaa
set_option linter.unusedVariables false
set_option linter.unusedSimpArgs false

/-! ### sums over squares -/
theorem sum_hit {s : Nat} {c : Int} : ∀ K, ((List.range K).map fun k => if s = k then c else 0).sum = if s < K then c else 0
  | 0 => by simp
  | K + 1 => by
    rw [List.range_succ, List.map_append, List.sum_append, sum_hit K]
    simp only [List.map_cons, List.map_nil, List.sum_cons, List.sum_nil, Int.add_zero]
    by_cases h1 : s < K
    · rw [if_pos h1, if_neg (by omega), if_pos (by omega), Int.add_zero]
    · rw [if_neg h1]
      by_cases h2 : s = K
      · rw [if_pos h2, if_pos (by omega), Int.zero_add]
      · rw [if_neg h2, if_neg (by omega)]; rfl
/-! ### components -/
theorem lkAt_lt {a : List Nat} (h : isP a) {s : Nat} (hs : s < a.length) : lkAt a s < (prtL a).length := by
  unfold lkAt
  refine List.findIdx_lt_length_of_exists ?_
  obtain ⟨h1, h2, h3⟩ := repS_spec h hs
  refine ⟨(List.range a.length).filter fun j => decide (j ∈ cyc a (repS a s)), ?_, ?_⟩
  · unfold prtL
    exact List.mem_map.2 ⟨repS a s, List.mem_filter.2 ⟨List.mem_range.2 h1, h3⟩, rfl⟩
  · rw [decide_eq_true_iff, List.mem_filter, List.mem_range, decide_eq_true_iff]
    exact ⟨hs, cyc_symm h hs h2⟩
/-! ### crossings of two components -/
theorem idxOf_map {f : Nat → Nat} (hf : ∀ s, f (f s) = s) (p : Nat) : ∀ l : List Nat, (l.map f).idxOf p = l.idxOf (f p)
  | [] => rfl
  | a :: l => by
    rw [List.map_cons, List.idxOf_cons, List.idxOf_cons, idxOf_map hf p l]
    have e : (f a == p) = (a == f p) := by
      rw [Bool.eq_iff_iff, beq_iff_eq, beq_iff_eq]
      exact ⟨fun e => by rw [← e, hf], fun e => by rw [e, hf]⟩
    rw [e]
theorem lkS_snoc {n : Nat} {u : List Int} {x : Int} (hx : x ≠ 0) (p : Nat) : lkS n (u ++ [x]) p = lkS n u (stepE p x) := by
  unfold lkS
  rw [← idxOf_map (f := fun s => stepE s x) (fun s => stepE_twice hx s)]
  congr 1
  unfold endsL
  rw [List.map_map]
  exact List.map_congr_left fun s _ => endE_snoc u x s
theorem lkS_lt {n : Nat} {u : List Int} (hu : okB n u) {p : Nat} (hp : p < n) : lkS n u p < n := by
  unfold lkS
  have h := ends_isP hu
  obtain ⟨j, hj, e⟩ := h.surj (i := p) (by rw [endsL_length]; exact hp)
  have := List.idxOf_lt_length_of_mem (a := p) (l := endsL n u) (by
    rw [← e]
    exact getD_mem hj)
  rwa [endsL_length] at this
theorem sign_odd {x : Int} (h : x ≠ 0) : x.sign = 1 ∨ x.sign = -1 := by
  rcases Int.lt_trichotomy x 0 with h1 | h1 | h1
  · exact .inr (Int.sign_eq_neg_one_of_neg h1)
  · exact absurd h1 h
  · exact .inl (Int.sign_eq_one_of_pos h1)
/-- An entry of the matrix of linking numbers. -/
def lkE (n : Nat) (w : List Int) (i k : Nat) : Int := (lkSum n (endsL n w) i k [] w).tdiv 2
theorem lkM_eq {n : Nat} {w : List Int} (h : bfault (n : Int) w = 0) : lkM (n : Int) w = (List.range (prtL (endsL n w)).length).map fun i => (List.range (prtL (endsL n w)).length).map fun k => lkE n w i k := by
  unfold lkM lkE
  rw [if_pos h, Int.toNat_natCast]
end Go.Proofs.Ytndgffiihbdppaa
/- slices.Sort of at most nine integers. -/
namespace Go.Proofs.Ytndgffiihbdppaa
set_option linter.unusedVariables false
set_option linter.unusedSimpArgs false
open Go.RowKit

theorem grownBy_setS {a w : World} {g : Nat} (h : a.grownBy w (some g)) (i : Nat) (u : Value) : a.grownBy (w.setCell ⟨g, i, none⟩ u) (some g) :=
  ⟨h.os, h.tape, h.output, by simpa [World.setCell] using h.size, fun k hk hne => (Below.heap_setCell w ⟨g, i, none⟩ u k (fun e => hne (by rw [e]))).trans (h.block k hk hne)⟩

/-- What the loops of the sort know. -/
structure SoSt (w wr : World) (base g n c : Nat) (xs ys : List Int) (i : Nat) : Prop where
  own : OwnI wr base (some ⟨g, 0, none⟩) n c ys
  grown : w.grownBy wr (some g)
  perm : ys.Perm xs
  sort : SortTo ys i
structure SiSt (w wr : World) (base g n c : Nat) (xs ys : List Int) (i j : Nat) : Prop where
  own : OwnI wr base (some ⟨g, 0, none⟩) n c ys
  grown : w.grownBy wr (some g)
  ins : InsSt xs ys i j
theorem SiSt.drewN {w wr : World} {base g n c i j : Nat} {xs ys : List Int} (h : SiSt w wr base g n c xs ys i j) (k : Nat) : SiSt w (wr.drewN k) base g n c xs ys i j :=
  ⟨h.own.drewN k, ⟨h.grown.os, h.grown.tape, h.grown.output, h.grown.size, h.grown.block⟩, h.ins⟩
theorem SiSt.swap {w wr : World} {base g n c i j : Nat} {xs ys : List Int} {x y : Int} (h : SiSt w wr base g n c xs ys i (j + 1)) (hi : i < n) (hj : j + 1 ≤ i) (hx : ys.getD (j + 1) 0 = x) (hy : ys.getD j 0 = y) (hlt : x < y) :
    SiSt w ((wr.setCell ⟨g, j + 1, none⟩ (.int .i64 y)).setCell ⟨g, j, none⟩ (.int .i64 x)).drew base g n c xs (swp ys j) i j := by
  have hl := h.own.len
  have h1 := (h.own.set_ (j + 1) y).set_ j x
  have e : (ys.set (j + 1) y).set j x = swp ys j := by unfold swp; rw [hx, hy]
  rw [e] at h1
  have hg := grownBy_setS (grownBy_setS h.grown (j + 1) (.int .i64 y)) j (.int .i64 x)
  exact ⟨h1.drew, ⟨hg.os, hg.tape, hg.output, hg.size, hg.block⟩, h.ins.swap (by omega) hj (by rw [hx, hy]; exact hlt)⟩
theorem SiSt.stop {w wr : World} {base g n c i j : Nat} {xs ys : List Int} (h : SiSt w wr base g n c xs ys i j) (hj : j ≤ i) (hs : j = 0 ∨ ys.getD (j - 1) 0 ≤ ys.getD j 0) : SoSt w wr base g n c xs ys (i + 1) :=
  ⟨h.own, h.grown, h.ins.perm, h.ins.stop hj hs⟩

end Go.Proofs.Ytndgffiihbdppaa
/- LinkSums: sums as loops take them (mathematics), the cells of a matrix of linking numbers. -/
namespace Go.Proofs.Ytndgffiihbdppaa
set_option linter.unusedVariables false
set_option linter.unusedSimpArgs false
open Go.RowKit

theorem lkSum_bd {n : Nat} {a : List Nat} (i k : Nat) : ∀ (w u : List Int), (lkSum n a i k u w).natAbs ≤ 2 * w.length
  | [], u => by simp [lkSum]
  | x :: w, u => by
    have ih := lkSum_bd (n := n) (a := a) i k w (u ++ [x])
    have hs := LP.sign_le x
    show (((if lkAt a (lkS n u (x.natAbs - 1)) = i ∧ lkAt a (lkS n u x.natAbs) = k then x.sign else 0) + (if lkAt a (lkS n u x.natAbs) = i ∧ lkAt a (lkS n u (x.natAbs - 1)) = k then x.sign else 0)) + lkSum n a i k (u ++ [x]) w).natAbs ≤ _
    rw [List.length_cons]
    split <;> split <;> omega
end Go.Proofs.Ytndgffiihbdppaa
/- timbref1.Parts: components by joined points (mathematics). -/
namespace Go.Proofs.Ytndgffiihbdppaa
set_option linter.unusedVariables false
set_option linter.unusedSimpArgs false

/-! ### the list of components, strand by strand -/
def rowP (a : List Nat) (i m : Nat) : List Nat := (List.range i).filter fun j => decide (j ∈ cyc a m)
def minK (a : List Nat) (i : Nat) : List Nat := (List.range i).filter fun m => isMin a m
def prtK (a : List Nat) (i : Nat) : List (List Nat) := (minK a i).map (rowP a i)
theorem prtK_all (a : List Nat) : prtK a a.length = prtL a := rfl
theorem minK_mem {a : List Nat} {i m : Nat} : m ∈ minK a i ↔ m < i ∧ isMin a m = true := by unfold minK; rw [List.mem_filter, List.mem_range]
theorem prtK_length (a : List Nat) (i : Nat) : (prtK a i).length = (minK a i).length := by simp [prtK]
end Go.Proofs.Ytndgffiihbdppaa
/- Package link: components by numbers (mathematics). -/
namespace Go.Proofs.Ytndgffiihbdppaa
set_option linter.unusedVariables false
set_option linter.unusedSimpArgs false

theorem minK_yes {a : List Nat} {i : Nat} (h : isMin a i = true) : minK a (i + 1) = minK a i ++ [i] := by
  unfold minK
  rw [List.range_succ, List.filter_append, List.filter_cons_of_pos h]
  rfl
theorem minK_no {a : List Nat} {i : Nat} (h : isMin a i = false) : minK a (i + 1) = minK a i := by
  unfold minK
  rw [List.range_succ, List.filter_append, List.filter_cons_of_neg (by simp [h])]
  simp
theorem minK_pre {a : List Nat} {m : Nat} : ∀ n, m ≤ n → ∃ r, minK a n = minK a m ++ r
  | 0, h => by
    have e : m = 0 := by omega
    subst e
    exact ⟨[], by simp⟩
  | n + 1, h => by
    by_cases e : m = n + 1
    · subst e
      exact ⟨[], by simp⟩
    · obtain ⟨r, hr⟩ := minK_pre (a := a) (m := m) n (by omega)
      cases hm : isMin a n with
      | true => exact ⟨r ++ [n], by rw [minK_yes hm, hr, List.append_assoc]⟩
      | false => exact ⟨r, by rw [minK_no hm, hr]⟩
theorem minK_le (a : List Nat) (i : Nat) : (minK a i).length ≤ i := by
  unfold minK
  refine Nat.le_trans (List.length_filter_le _ _) ?_
  rw [List.length_range]
  exact Nat.le_refl _
/-- The smallest strand of a strand's component. -/
theorem repS_iff {a : List Nat} (h : isP a) {j s : Nat} (hj : j < a.length) (hs : s < a.length) (hm : isMin a j = true) : repS a s = j ↔ s ∈ cyc a j := by
  obtain ⟨r1, r2, r3⟩ := repS_spec h hs
  constructor
  · intro e
    rw [e] at r2
    exact cyc_symm h hs r2
  · intro e
    exact min_unique h r1 hj r3 hm (cyc_symm h hs r2) e
/-- A component's number is how many smallest strands are smaller. -/
theorem lkAt_num {a : List Nat} (h : isP a) {s : Nat} (hs : s < a.length) : lkAt a s = (minK a (repS a s)).length := by
  obtain ⟨r1, r2, r3⟩ := repS_spec h hs
  obtain ⟨t, ht⟩ := minK_pre (a := a) (m := repS a s + 1) a.length (by omega)
  rw [minK_yes r3] at ht
  unfold lkAt
  rw [← prtK_all]
  unfold prtK
  rw [ht, List.append_assoc, List.map_append, List.findIdx_append]
  have h1 : List.findIdx (fun c => decide (s ∈ c)) ((minK a (repS a s)).map (rowP a a.length)) = (minK a (repS a s)).length := by
    rw [List.findIdx_eq_length_of_false, List.length_map]
    intro c hc
    obtain ⟨m, hm, rfl⟩ := List.mem_map.1 hc
    obtain ⟨m1, m2⟩ := minK_mem.1 hm
    rw [decide_eq_false_iff_not]
    intro hin
    unfold rowP at hin
    have hin2 := (List.mem_filter.1 hin).2
    rw [decide_eq_true_iff] at hin2
    have := (repS_iff h (by omega) hs m2).2 hin2
    omega
  rw [h1, List.length_map, if_neg (by omega)]
  have h2 : decide (s ∈ rowP a a.length (repS a s)) = true := by
    rw [decide_eq_true_iff]
    unfold rowP
    rw [List.mem_filter, List.mem_range, decide_eq_true_iff]
    exact ⟨hs, cyc_symm h hs r2⟩
  simp only [List.map_append, List.map_cons, List.map_nil, List.cons_append, List.nil_append, List.findIdx_cons, h2, cond_true, Nat.zero_add]

/-! ### the numbers that the program writes -/
/-- The numbers once the components that begin below j are done, and t strands of that of j. -/
def cK (a : List Nat) (j t : Nat) : List Int := (List.range a.length).map fun s => if repS a s < j ∨ s ∈ (cyc a j).take t then ((lkAt a s : Nat) : Int) else -1
theorem cK_length (a : List Nat) (j t : Nat) : (cK a j t).length = a.length := by simp [cK]
theorem cK_getD {a : List Nat} {j t s : Nat} (hs : s < a.length) : (cK a j t).getD s 0 = if repS a s < j ∨ s ∈ (cyc a j).take t then ((lkAt a s : Nat) : Int) else -1 := by
  simp [cK, List.getD, hs]
theorem cK_start (a : List Nat) : cK a 0 0 = List.replicate a.length (-1) := by
  unfold cK
  rw [show (fun s => if repS a s < 0 ∨ s ∈ (cyc a 0).take 0 then ((lkAt a s : Nat) : Int) else -1) = fun _ => (-1 : Int) by
    funext s
    rw [if_neg]
    simp]
  rw [List.map_const', List.length_range]
theorem cK_congr {a : List Nat} {j t j' t' : Nat} (h : ∀ s, s < a.length → ((repS a s < j ∨ s ∈ (cyc a j).take t) ↔ (repS a s < j' ∨ s ∈ (cyc a j').take t'))) : cK a j t = cK a j' t' := by
  unfold cK
  refine List.map_congr_left fun s hs => ?_
  have := h s (List.mem_range.1 hs)
  by_cases e : repS a s < j ∨ s ∈ (cyc a j).take t
  · rw [if_pos e, if_pos (this.1 e)]
  · rw [if_neg e, if_neg fun e2 => e (this.2 e2)]
theorem cK_skip {a : List Nat} (h : isP a) {j : Nat} (hj : j < a.length) (hr : repS a j < j) : cK a (j + 1) 0 = cK a j 0 := by
  refine cK_congr fun s hs => ?_
  simp only [List.take_zero, List.not_mem_nil, or_false]
  obtain ⟨_, _, r3⟩ := repS_spec h hs
  constructor
  · intro e
    by_cases e2 : repS a s = j
    · rw [e2] at r3
      have := (repS_min h hj).2 r3
      omega
    · omega
  · omega
theorem min_of_rep {a : List Nat} (h : isP a) {j : Nat} (hj : j < a.length) (hr : ¬ repS a j < j) : isMin a j = true := by
  have := repS_le h hj
  exact (repS_min h hj).1 (by omega)
theorem cK_next {a : List Nat} (h : isP a) {j : Nat} (hj : j < a.length) (hm : isMin a j = true) : cK a j (perOf a j) = cK a (j + 1) 0 := by
  refine cK_congr fun s hs => ?_
  rw [List.take_of_length_le (by rw [cyc_length]; exact Nat.le_refl _)]
  simp only [List.take_zero, List.not_mem_nil, or_false]
  rw [← repS_iff h hj hs hm]
  omega
theorem cK_set {a : List Nat} (h : isP a) {j t : Nat} (hj : j < a.length) (hm : isMin a j = true) (ht : t < perOf a j) : (cK a j t).set (it a t j) (((minK a j).length : Nat) : Int) = cK a j (t + 1) := by
  have hx := it_lt h hj t
  have hc : (cyc a j).take (t + 1) = (cyc a j).take t ++ [it a t j] := by
    rw [List.take_succ_eq_append_getElem (by rw [cyc_length]; exact ht)]
    simp [cyc]
  refine list_extI (by rw [List.length_set, cK_length, cK_length]) fun s hs => ?_
  rw [List.length_set, cK_length] at hs
  have hv : lkAt a (it a t j) = (minK a j).length := by
    rw [lkAt_num h hx, (repS_iff h hj hx hm).2 ((mem_cyc h hj).2 ⟨t, rfl⟩)]
  rw [cK_getD hs, hc]
  by_cases e : s = it a t j
  · subst e
    rw [if_pos (Or.inr (by simp)), hv]
    simp [List.getD, cK_length, hx]
  · have e2 : ((cK a j t).set (it a t j) (((minK a j).length : Nat) : Int)).getD s 0 = (cK a j t).getD s 0 := by
      simp only [List.getD, List.getElem?_set]
      rw [if_neg (fun e3 => e e3.symm)]
    rw [e2, cK_getD hs]
    have e3 : (s ∈ (cyc a j).take t ++ [it a t j]) ↔ s ∈ (cyc a j).take t := by simp [e]
    simp only [e3]
/-- A strand that isn't numbered yet. -/
theorem cK_none {a : List Nat} (h : isP a) {j t : Nat} (hj : j < a.length) (hm : isMin a j = true) (ht : t < perOf a j) : (cK a j t).getD (it a t j) 0 = -1 := by
  have hx := it_lt h hj t
  rw [cK_getD hx, if_neg]
  rintro (e | e)
  · rw [(repS_iff h hj hx hm).2 ((mem_cyc h hj).2 ⟨t, rfl⟩)] at e
    omega
  · obtain ⟨u, hu, e⟩ := List.mem_iff_getElem.1 e
    rw [List.length_take, cyc_length] at hu
    simp only [List.getElem_take, cyc, List.getElem_map, List.getElem_range] at e
    obtain ⟨d, hd⟩ : ∃ d, t = u + d := ⟨t - u, by omega⟩
    rw [hd] at e
    have e2 := it_back h hj e.symm
    exact (per_spec h hj).2.2.2 d (by omega) (by omega) e2
theorem cK_back {a : List Nat} (h : isP a) {j : Nat} (hj : j < a.length) (hm : isMin a j = true) : it a (perOf a j) j = j ∧ (cK a j (perOf a j)).getD j 0 = ((lkAt a j : Nat) : Int) := by
  refine ⟨(per_spec h hj).2.2.1, ?_⟩
  rw [cK_next h hj hm, cK_getD hj, if_pos]
  left
  have := repS_le h hj
  omega
theorem cK_end {a : List Nat} (h : isP a) : cK a a.length 0 = zs ((List.range a.length).map (lkAt a)) := by
  unfold cK zs
  rw [List.map_map]
  refine List.map_congr_left fun s hs => ?_
  rw [if_pos (Or.inl (repS_spec h (List.mem_range.1 hs)).1)]
  rfl
theorem prt_minK (a : List Nat) : (prtL a).length = (minK a a.length).length := by rw [← prtK_all, prtK_length]

/-! ### the rows of strands -/
/-- The rows when i strands are in. -/
def rwK (a : List Nat) (i : Nat) : List (List Nat) := (List.range (prtL a).length).map fun k => (List.range i).filter fun s => decide (lkAt a s = k)
theorem rwK_length (a : List Nat) (i : Nat) : (rwK a i).length = (prtL a).length := by simp [rwK]
theorem rwK_getD {a : List Nat} {i k : Nat} (hk : k < (prtL a).length) : (rwK a i).getD k [] = (List.range i).filter fun s => decide (lkAt a s = k) := by
  simp [rwK, List.getD, hk]
theorem rwK_start (a : List Nat) : rwK a 0 = List.replicate (prtL a).length [] := by
  unfold rwK
  rw [show (fun k => (List.range 0).filter fun s => decide (lkAt a s = k)) = fun _ => ([] : List Nat) by funext k; rfl, List.map_const', List.length_range]
theorem rwK_put {a : List Nat} (h : isP a) {i : Nat} (hi : i < a.length) : rwK a (i + 1) = (rwK a i).set (lkAt a i) ((rwK a i).getD (lkAt a i) [] ++ [i]) := by
  have hk := lkAt_lt h hi
  rw [rwK_getD hk]
  unfold rwK
  refine List.ext_getElem (by simp) fun k h1 h2 => ?_
  rw [List.getElem_map, List.getElem_range, List.getElem_set, List.getElem_map, List.getElem_range, List.range_succ, List.filter_append]
  by_cases e : lkAt a i = k
  · subst e
    rw [if_pos rfl, List.filter_cons_of_pos (by simp)]
    rfl
  · rw [if_neg e, List.filter_cons_of_neg (by simpa using e)]
    simp
theorem rwK_end {a : List Nat} (h : isP a) : rwK a a.length = prtL a := by
  refine List.ext_getElem (by rw [rwK_length]) fun k h1 h2 => ?_
  have hk : k < (minK a a.length).length := by rwa [← prt_minK]
  obtain ⟨m1, m2⟩ := minK_mem.1 (List.getElem_mem hk)
  have e1 : (rwK a a.length)[k] = (List.range a.length).filter fun s => decide (lkAt a s = k) := by simp [rwK]
  have e2 : (prtL a)[k] = rowP a a.length (minK a a.length)[k] := by
    simp only [← prtK_all]
    unfold prtK
    rw [List.getElem_map]
  rw [e1, e2]
  unfold rowP
  obtain ⟨m, hm⟩ : ∃ m, (minK a a.length)[k] = m := ⟨_, rfl⟩
  rw [hm] at m1 m2 ⊢
  have hk2 : k = (minK a m).length := by
    obtain ⟨t, ht⟩ := minK_pre (a := a) (m := m + 1) a.length (by omega)
    rw [minK_yes m2] at ht
    have hnd : (minK a a.length).Nodup := nodup_filter _ List.nodup_range
    have hl : (minK a m).length < (minK a a.length).length := by rw [ht]; simp
    have e3 : (minK a a.length)[(minK a m).length] = m := by
      simp only [ht]
      simp
    exact (List.getElem_inj hnd).1 (hm.trans e3.symm)
  refine List.filter_congr fun s hs => ?_
  have hs2 := List.mem_range.1 hs
  rw [decide_eq_decide, ← repS_iff h m1 hs2 m2, lkAt_num h hs2, hk2]
  constructor
  · intro e
    obtain ⟨r1, r2, r3⟩ := repS_spec h hs2
    rcases Nat.lt_trichotomy (repS a s) m with g | g | g
    · exfalso
      obtain ⟨t, ht⟩ := minK_pre (a := a) (m := repS a s + 1) m (by omega)
      rw [minK_yes r3] at ht
      have := congrArg List.length ht
      simp at this
      omega
    · exact g
    · exfalso
      obtain ⟨t, ht⟩ := minK_pre (a := a) (m := m + 1) (repS a s) (by omega)
      rw [minK_yes m2] at ht
      have := congrArg List.length ht
      simp at this
      omega
  · intro e
    rw [e]

/-! ### components by position -/
/-- The components of the strands by their positions behind a word. -/
def atK (n : Nat) (a : List Nat) (u : List Int) : List Nat := (List.range n).map fun p => lkAt a (lkS n u p)
theorem atK_length (n : Nat) (a : List Nat) (u : List Int) : (atK n a u).length = n := by simp [atK]
theorem atK_getD {n p : Nat} {a : List Nat} {u : List Int} (hp : p < n) : (atK n a u).getD p 0 = lkAt a (lkS n u p) := by
  simp [atK, List.getD, hp]
theorem lkS_nil {n p : Nat} (hp : p < n) : lkS n [] p = p := by
  unfold lkS
  have e : endsL n [] = List.range n := by
    unfold endsL
    conv => rhs; rw [← List.map_id (List.range n)]
    exact List.map_congr_left fun s _ => rfl
  rw [e]
  have hm : p ∈ List.range n := List.mem_range.2 hp
  have h2 : (List.range n).idxOf p < (List.range n).length := List.idxOf_lt_length_of_mem hm
  have h3 := List.getElem_idxOf h2
  rwa [List.getElem_range] at h3
theorem atK_start {n : Nat} {a : List Nat} (h : a.length = n) : (List.range a.length).map (lkAt a) = atK n a [] := by
  rw [h]
  unfold atK
  refine List.map_congr_left fun p hp => ?_
  rw [lkS_nil (List.mem_range.1 hp)]
theorem atK_step {n i : Nat} {a : List Nat} {u : List Int} {x : Int} (h0 : x ≠ 0) (hi : x.natAbs = i + 1) (hn : i + 1 < n) : ((atK n a u).set i ((atK n a u).getD (i + 1) 0)).set (i + 1) ((atK n a u).getD i 0) = atK n a (u ++ [x]) := by
  rw [atK_getD hn, atK_getD (show i < n by omega)]
  refine List.ext_getElem (by simp [atK]) fun p h1 h2 => ?_
  have hp : p < n := by rw [atK_length] at h2; exact h2
  have e1 : (atK n a (u ++ [x]))[p] = lkAt a (lkS n u (stepE p x)) := by
    simp only [atK, List.getElem_map, List.getElem_range]
    rw [lkS_snoc h0]
  rw [e1, List.getElem_set, List.getElem_set]
  unfold stepE
  by_cases e2 : i + 1 = p
  · subst e2
    rw [if_pos rfl, if_neg (by omega), if_pos (by omega)]
    rfl
  · rw [if_neg e2]
    by_cases e3 : i = p
    · subst e3
      rw [if_pos rfl, if_pos (by omega)]
    · rw [if_neg e3, if_neg (by omega), if_neg (by omega)]
      simp [atK]
end Go.Proofs.Ytndgffiihbdppaa
/- slices.Compare, factorial. -/
namespace Go.Proofs.Ytndgffiihbdppaa
set_option linter.unusedVariables false
set_option linter.unusedSimpArgs false
open Go.RowKit

/-- cmp.Compare at integers. -/
def cmp1 (x y : Int) : Int := if x < y then -1 else if y < x then 1 else 0

set_option maxHeartbeats 1000000 in
theorem cmp_any (x y : Int) (w : World) : Calls Try.prog 33 #[.int .i64 x, .int .i64 y] w fun e w' => e = .returned (.int .i64 (cmp1 x y)) ∧ w = w' := by
  rcases Int.lt_trichotomy x y with h | h | h
  · have HE : Hid (cmp1 x y = -1) := if_pos h
    have hx : (x != x) = false := by simp
    have hy : (y != y) = false := by simp
    go_enter Try.func33, Try.ntmps33
    go_wp2
    go_ret
    rw [HE.out]
    exact ⟨rfl, rfl⟩
  · subst h
    have HE : Hid (cmp1 x x = 0) := by unfold cmp1; rw [if_neg (by omega), if_neg (by omega)]; exact rfl
    have hx : (x != x) = false := by simp
    go_enter Try.func33, Try.ntmps33
    go_wp2
    go_ret
    rw [HE.out]
    exact ⟨rfl, rfl⟩
  · have HE : Hid (cmp1 x y = 1) := by unfold cmp1; rw [if_neg (by omega), if_pos h]; exact rfl
    have hx : (x != x) = false := by simp
    have hy : (y != y) = false := by simp
    go_enter Try.func33, Try.ntmps33
    go_wp2
    go_ret
    rw [HE.out]
    exact ⟨rfl, rfl⟩

end Go.Proofs.Ytndgffiihbdppaa
