/- What package freegroup's functions are to answer (words alone), and what follows for the facts free and reduced that the laws begin with. -/
import Derived.Test.YtbckgomidoelaaaConj
import Derived.Test.YtbckgomidoelaaaWord
import Derived.Test.YtbckgomidoelaaaFault2
namespace Go.Proofs.Ytbckgomidoelaaa
set_option linter.unusedVariables false
set_option linter.unusedSimpArgs false
open Go.RowKit

/-- A slice that reads as xs. -/
structure SL (w : World) (A : Option Addr) (n c : Nat) (xs : List Int) : Prop where
  il : IL w A n xs
  nil : A = none → n = 0 ∧ c = 0
  cap : n ≤ c
theorem SL.below {w w' : World} {A : Option Addr} {n c : Nat} {xs : List Int} (h : SL w A n c xs) (hb : Below w.heap.size w w') : SL w' A n c xs := ⟨h.il.below hb, h.nil, h.cap⟩
theorem SL.nil_ (w : World) : SL w none 0 0 [] := ⟨IL.nil_ w, fun _ => ⟨rfl, rfl⟩, Nat.le_refl _⟩
theorem OwnI.sl {w : World} {base n c : Nat} {A : Option Addr} {xs : List Int} (h : OwnI w base A n c xs) : SL w A n c xs := ⟨h.il, h.nil, h.cap⟩
theorem SL.lit (w : World) (xs : List Int) (hs : xs.length ≤ 1000) {cs : Array Value} (hc : cs = (xs.map (Value.int .i64)).toArray) {m : Nat} (hm : xs.length = m) : SL (w.alloc (.cells cs 3)) (some ⟨w.heap.size, 0, none⟩) m m xs :=
  ⟨IL.lit w xs (by omega) hc hm, fun h => (by cases h), Nat.le_refl _⟩
/-- A slice and an error. -/
def GivesLE (w : World) (err : Int) (xs : List Int) (e : Ending) (w' : World) : Prop :=
  ∃ A n c, e = .returned (.tuple #[.slice A n c, .int .i64 err]) ∧ SL w' A n c xs ∧ Below w.heap.size w w'

def redL (xs : List Int) : List Int := if ffault xs = 0 then nf xs else []
def invL (xs : List Int) : List Int := if ffault xs = 0 then invw (nf xs) else []
def prodE (xs ys : List Int) : Int := if ffault xs = 0 then (if ffault ys = 0 then (if 60 < (nf (xs ++ ys)).length then 2 else 0) else ffault ys) else ffault xs
def prodL (xs ys : List Int) : List Int := if prodE xs ys = 0 then nf (xs ++ ys) else []
def bothE (xs ys : List Int) : Int := if ffault xs = 0 then ffault ys else ffault xs
def cycL (xs : List Int) : List Int := if ffault xs = 0 then (core (nf xs)).1 else []
def cycU (xs : List Int) : List Int := if ffault xs = 0 then (core (nf xs)).2 else []
noncomputable def conB (xs ys : List Int) : Bool := if bothE xs ys = 0 then conjB (core (nf xs)).1 (core (nf ys)).1 else false
def rootE (xs : List Int) : Int := if ffault xs = 0 then (if nf xs = [] then 4 else 0) else ffault xs
/-- What Root answers. -/
def RootOf (xs rs : List Int) (k : Int) : Prop :=
  (rootE xs = 0 → ∃ (d : List Int) (j : Nat), IsRoot (core (nf xs)).1 d j ∧ rs = (core (nf xs)).2 ++ d ++ invw (core (nf xs)).2 ∧ k = j) ∧ (rootE xs ≠ 0 → rs = [] ∧ k = 0)

/-- Package freegroup, as the document asks (its letters, words and errors; what it writes lies above what was). -/
structure FreeC : Prop where
  check : ∀ (A : Option Addr) (n c : Nat) (xs : List Int) (w : World), SL w A n c xs → Calls Try.prog 15 #[.slice A n c] w fun e w' => e = .returned (.int .i64 (ffault xs)) ∧ Below w.heap.size w w'
  reduce : ∀ (A : Option Addr) (n c : Nat) (xs : List Int) (w : World), SL w A n c xs → Calls Try.prog 7 #[.slice A n c] w (GivesLE w (ffault xs) (redL xs))
  product : ∀ (A B : Option Addr) (n c m d : Nat) (xs ys : List Int) (w : World), SL w A n c xs → SL w B m d ys → Calls Try.prog 8 #[.slice A n c, .slice B m d] w (GivesLE w (prodE xs ys) (prodL xs ys))
  inverse : ∀ (A : Option Addr) (n c : Nat) (xs : List Int) (w : World), SL w A n c xs → Calls Try.prog 9 #[.slice A n c] w (GivesLE w (ffault xs) (invL xs))
  cyclic : ∀ (A : Option Addr) (n c : Nat) (xs : List Int) (w : World), SL w A n c xs → Calls Try.prog 17 #[.slice A n c] w fun e w' => ∃ C cn cc U un uc, e = .returned (.tuple #[.slice C cn cc, .slice U un uc, .int .i64 (ffault xs)]) ∧ SL w' C cn cc (cycL xs) ∧ SL w' U un uc (cycU xs) ∧ Below w.heap.size w w'
  conjugate : ∀ (A B : Option Addr) (n c m d : Nat) (xs ys : List Int) (w : World), SL w A n c xs → SL w B m d ys → Calls Try.prog 18 #[.slice A n c, .slice B m d] w fun e w' => e = .returned (.tuple #[.bool (conB xs ys), .int .i64 (bothE xs ys)]) ∧ Below w.heap.size w w'
  root : ∀ (A : Option Addr) (n c : Nat) (xs : List Int) (w : World), SL w A n c xs → Calls Try.prog 19 #[.slice A n c] w fun e w' => ∃ R rn rc rs k, e = .returned (.tuple #[.slice R rn rc, .int .i64 k, .int .i64 (rootE xs)]) ∧ SL w' R rn rc rs ∧ RootOf xs rs k ∧ Below w.heap.size w w'

theorem nf_122 : nf [1, 2, -2] = [1] := by decide
theorem root_1212 {rs : List Int} {k : Int} (h : RootOf [1, 2, 1, 2] rs k) : k = 2 := by
  have hn : nf [1, 2, 1, 2] = [1, 2, 1, 2] := by decide
  have h0 : rootE [1, 2, 1, 2] = 0 := by decide
  obtain ⟨d, j, hr, _, rfl⟩ := h.1 h0
  have hc : (core [1, 2, 1, 2]).1 = [1, 2, 1, 2] := by decide
  rw [hn, hc] at hr
  have h2 : IsRoot [1, 2, 1, 2] ([1, 2, 1, 2].take ([1, 2, 1, 2].length / 2)) 2 := isRoot_of_try (by decide) (by decide) (by decide) (by decide) (by
    intro j hj hl
    have : j = 3 ∨ j = 4 := by simp at hl; omega
    rcases this with rfl | rfl
    · decide
    · decide)
  have := (hr.unique h2 (by decide)).2
  omega

set_option maxRecDepth 100000 in
set_option maxHeartbeats 2000000 in
theorem free_any (F : FreeC) (w : World) : Calls Try.prog 14 #[] w fun e w' => e = .returned (.bool true) ∧ Below w.heap.size w w' := by
  have HF := hide F
  clear F
  go_enter Try.func14, Try.ntmps14
  go_wp2_with fail
  have hl1 := SL.lit w [1, 2, -2] (by decide) rfl rfl
  refine (HF.out.reduce _ 3 3 [1, 2, -2] _ hl1).mono ?_
  rintro e w1 ⟨A1, n1, c1, rfl, hs1, hb1⟩
  rw [show ffault [1, 2, -2] = 0 from by decide]
  rw [show redL [1, 2, -2] = [1] from by decide] at hs1
  have hb01 := ((Below.refl w.heap.size w).alloc (Nat.le_refl _) (.cells #[.int .i64 1, .int .i64 2, .int .i64 (-2)] 3)).trans (hb1.mono (by simp))
  have HS1 := hide hs1
  have HB01 := hide hb01
  clear hl1 hs1 hb1 hb01
  go_wp2_with fail
  have hl2 := SL.lit w1 [1, 2, 1, 2] (by decide) rfl rfl
  refine (HF.out.root _ 4 4 [1, 2, 1, 2] _ hl2).mono ?_
  rintro e w2 ⟨A2, n2, c2, rs, k, rfl, hs2, hr, hb2⟩
  rw [show rootE [1, 2, 1, 2] = 0 from by decide]
  have hk := root_1212 hr
  subst hk
  have hb12 := ((Below.refl w1.heap.size w1).alloc (Nat.le_refl _) (.cells #[.int .i64 1, .int .i64 2, .int .i64 1, .int .i64 2] 3)).trans (hb2.mono (by simp))
  have HS2 := hide (HS1.out.below hb12)
  have HB02 := hide (HB01.out.trans (hb12.mono HB01.out.size))
  clear hl2 hs2 hb2 hb12 hr HS1 HB01
  go_wp2_with fail
  have hl3 := SL.lit w2 [1] (by decide) rfl rfl
  have hb23 := (Below.refl w2.heap.size w2).alloc (Nat.le_refl _) (.cells #[.int .i64 1] 3)
  refine (equal_any A1 _ n1 1 c1 1 [1] [1] _ (HS2.out.il.below hb23) hl3.il).mono ?_
  rintro e w3 ⟨rfl, hb3⟩
  rw [eqB_true rfl]
  have HB03 := hide ((HB02.out.trans (hb23.mono HB02.out.size)).trans (hb3.mono (HB02.out.trans (hb23.mono HB02.out.size)).size))
  clear hb3 hb23 hl3 HS2 HB02
  go_wp2_with fail
  go_ret
  exact ⟨rfl, HB03.out⟩
end Go.Proofs.Ytbckgomidoelaaa
