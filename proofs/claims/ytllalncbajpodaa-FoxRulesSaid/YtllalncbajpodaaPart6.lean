/- Several texts of the walk in one. -/
import Derived.Test.YtllalncbajpodaaPart5
import Derived.Deep.DeepCutAuto
import Derived.Test.YtllalncbajpodaaPart1
import Derived.Test.YtllalncbajpodaaPart2
import Derived.Test.YtllalncbajpodaaBase
/- timbmake.Letter, timbmake.Word. -/
namespace Go.Proofs.Ytllalncbajpodaa
set_option linter.unusedVariables false
set_option linter.unusedSimpArgs false
open Go.RowKit

theorem letter_any (x : Int) (k : Nat) (w : World) (h0 : 0 < k) (hk : k ≤ 1000) :
    Calls Try.prog 32 #[.int .i64 x, .int .i64 k] w fun e w' => ∃ y : Int, e = .returned (.int .i64 y) ∧ y ≠ 0 ∧ -(k : Int) ≤ y ∧ y ≤ k ∧ w = w' := by
  have HM := hide (mbelow_any x (2 * k) w (by omega) (by omega))
  have h1 := Int.emod_nonneg x (show ((2 * k : Nat) : Int) ≠ 0 by omega)
  have h2 := Int.emod_lt_of_pos x (show (0 : Int) < ((2 * k : Nat) : Int) by omega)
  obtain ⟨z, hz⟩ : ∃ z, x % ((2 * k : Nat) : Int) = z := ⟨_, rfl⟩
  rw [hz] at HM h1 h2
  have e2 : ((2 * k : Nat) : Int) = 2 * (k : Int) := by omega
  rw [e2] at HM h2
  clear hz e2
  go_enter Try.func32, Try.ntmps32
  go_wp2_with fail
  refine HM.out.mono ?_
  rintro e w' ⟨rfl, rfl⟩
  by_cases hlt : z < k
  · go_wp2
    go_ret
    exact ⟨z + 1, rfl, by omega, by omega, by omega, rfl⟩
  · go_wp2
    go_ret
    exact ⟨_, rfl, by omega, by omega, by omega, rfl⟩

/-- The letters so far. -/
structure WoSt (w wr : World) (k : Nat) (A : Option Addr) (n c : Nat) (us : List Int) : Prop where
  own : OwnI wr w.heap.size A n c us
  ok : ∀ x ∈ us, x ≠ 0 ∧ x ≤ k ∧ -(k : Int) ≤ x
  below : Below w.heap.size w wr
set_option maxRecDepth 100000 in
set_option maxHeartbeats 2000000 in
theorem word_any (A : Option Addr) (k l c L : Nat) (xs : List Int) (w : World) (hx : IL w A l xs) (hc : l ≤ c) (h0 : 0 < k) (hk : k ≤ 1000) (hL : L ≤ 1000) :
    Calls Try.prog 13 #[.int .i64 k, .slice A l c, .int .i64 L] w fun e w' => ∃ us B m d, e = .returned (.slice B m d) ∧ OwnI w' w.heap.size B m d us ∧ (∀ x ∈ us, x ≠ 0 ∧ x ≤ k ∧ -(k : Int) ≤ x) ∧ m ≤ L ∧ Below w.heap.size w w' := by
  obtain ⟨i0, hi0, hz0, hz1, hz2⟩ := info_parts int_info
  have HX := hide hx
  have hsm := hx.small
  clear hx
  obtain ⟨K, hK⟩ : ∃ K, K = min l L := ⟨_, rfl⟩
  have hKl : K ≤ l := by omega
  have HP := hide (HX.out.pre hKl)
  have hK10 : K ≤ L := by omega
  go_enter Try.func13, Try.ntmps13
  go_upto_region 3 with fail
  all_goals
    first | (have e : K = L := by omega) | (have e : K = l := by omega)
    subst e
    clear hK
    go_loopw [7, 17] (fun ov iv wr => ∃ (i c7 : Nat) (A7 : Option Addr) (us : List Int), ov = .slice A7 i c7 ∧ iv = .int .i64 i ∧ i ≤ K ∧ WoSt w wr k A7 i c7 us) (fun _ iv _ => K - (intOf iv).toNat)
    case atStart => exact ⟨0, 0, none, [], rfl, rfl, by omega, ⟨OwnI.nil_ _ _, fun x hx => by simp at hx, Below.refl _ _⟩⟩
    case round =>
      obtain ⟨i, c7, A7, us, rfl, rfl, hi, hst⟩ := hrel
      by_cases hlt : i < K
      · obtain ⟨ad, rfl, hcl⟩ := (HP.out.below hst.below).at_ hlt
        generalize (xs.take K).getD i 0 = x at *
        go_wp2_with fail
        refine (letter_any x k wr h0 hk).mono ?_
        rintro e w2 ⟨y, rfl, hy0, hy1, hy2, rfl⟩
        have HST := hide hst
        have hs := hst.below.size
        clear hst hcl
        go_wp2_with (at_builtin; refine wpList_append_int _ rfl _ _ 22 rfl w.heap.size i0 Try.underlying22 hi0 hz0 hz1 hz2 A7 i c7 us rfl (HST.out.own.alloc _) (some ⟨_, 0, none⟩) 1 1 [y] rfl (IL.lit _ [y] (by simp) rfl rfl) (by omega) (by simp; omega) ?_; intro A8 c8 w8 hap)
        have hN : WoSt w w8 k A8 (i + 1) c8 (us ++ [y]) := by
          refine ⟨hap.own, fun z hz => ?_, (HST.out.below.alloc hs _).grown hap.grown (by simp; omega) (fun j hj => (HST.out.own.lt j (by rw [ownBlock_len A7 i (i + 1) c7 c7]; exact hj)).1)⟩
          rcases List.mem_append.1 hz with hz | hz
          · exact HST.out.ok z hz
          · obtain rfl : z = y := by simpa using hz
            exact ⟨hy0, hy2, hy1⟩
        clear hap
        go_roundw
        case rel => exact ⟨i + 1, c8, A8, _, by go_num, by go_num, by omega, hN⟩
        case measure => simp [intOf]; omega
      · go_wp2
        go_ret
        exact ⟨us, A7, i, c7, rfl, hst.own, hst.ok, by omega, hst.below⟩
end Go.Proofs.Ytllalncbajpodaa
/- What package freegroup's functions are to answer (words alone), and what follows for the facts free and reduced that the laws begin with. -/
namespace Go.Proofs.Ytllalncbajpodaa
set_option linter.unusedVariables false
set_option linter.unusedSimpArgs false
open Go.RowKit

/-- A slice and an error. -/
def GivesLE (w : World) (err : Int) (xs : List Int) (e : Ending) (w' : World) : Prop :=
  ∃ A n c, e = .returned (.tuple #[.slice A n c, .int .i64 err]) ∧ SL w' A n c xs ∧ Below w.heap.size w w'

def redL (xs : List Int) : List Int := if ffault xs = 0 then nf xs else []
def invL (xs : List Int) : List Int := if ffault xs = 0 then invw (nf xs) else []
def prodE (xs ys : List Int) : Int := if ffault xs = 0 then (if ffault ys = 0 then (if 60 < (nf (xs ++ ys)).length then 2 else 0) else ffault ys) else ffault xs
def prodL (xs ys : List Int) : List Int := if prodE xs ys = 0 then nf (xs ++ ys) else []
def bothE (xs ys : List Int) : Int := if ffault xs = 0 then ffault ys else ffault xs
def cycL (xs : List Int) : List Int := if ffault xs = 0 then (core (nf xs)).1 else []
def cycU (xs : List Int) : List Int := if ffault xs = 0 then (core (nf xs)).2 else []
noncomputable def conB (xs ys : List Int) : Bool := if bothE xs ys = 0 then conjB (core (nf xs)).1 (core (nf ys)).1 else false
def rootE (xs : List Int) : Int := if ffault xs = 0 then (if nf xs = [] then 4 else 0) else ffault xs
/-- What Root answers. -/
def RootOf (xs rs : List Int) (k : Int) : Prop :=
  (rootE xs = 0 → ∃ (d : List Int) (j : Nat), IsRoot (core (nf xs)).1 d j ∧ rs = (core (nf xs)).2 ++ d ++ invw (core (nf xs)).2 ∧ k = j) ∧ (rootE xs ≠ 0 → rs = [] ∧ k = 0)

/-- Package freegroup, as the document asks (its letters, words and errors; what it writes lies above what was). -/
structure FreeC : Prop where
  check : ∀ (A : Option Addr) (n c : Nat) (xs : List Int) (w : World), SL w A n c xs → Calls Try.prog 27 #[.slice A n c] w fun e w' => e = .returned (.int .i64 (ffault xs)) ∧ Below w.heap.size w w'
  product : ∀ (A B : Option Addr) (n c m d : Nat) (xs ys : List Int) (w : World), SL w A n c xs → SL w B m d ys → Calls Try.prog 35 #[.slice A n c, .slice B m d] w (GivesLE w (prodE xs ys) (prodL xs ys))
  inverse : ∀ (A : Option Addr) (n c : Nat) (xs : List Int) (w : World), SL w A n c xs → Calls Try.prog 14 #[.slice A n c] w (GivesLE w (ffault xs) (invL xs))
  cyclic : ∀ (A : Option Addr) (n c : Nat) (xs : List Int) (w : World), SL w A n c xs → Calls Try.prog 17 #[.slice A n c] w fun e w' => ∃ C cn cc U un uc, e = .returned (.tuple #[.slice C cn cc, .slice U un uc, .int .i64 (ffault xs)]) ∧ SL w' C cn cc (cycL xs) ∧ SL w' U un uc (cycU xs) ∧ Below w.heap.size w w'
  conjugate : ∀ (A B : Option Addr) (n c m d : Nat) (xs ys : List Int) (w : World), SL w A n c xs → SL w B m d ys → Calls Try.prog 16 #[.slice A n c, .slice B m d] w fun e w' => e = .returned (.tuple #[.bool (conB xs ys), .int .i64 (bothE xs ys)]) ∧ Below w.heap.size w w'

theorem nf_122 : nf [1, 2, -2] = [1] := by decide
theorem root_1212 {rs : List Int} {k : Int} (h : RootOf [1, 2, 1, 2] rs k) : k = 2 := by
  have hn : nf [1, 2, 1, 2] = [1, 2, 1, 2] := by decide
  have h0 : rootE [1, 2, 1, 2] = 0 := by decide
  obtain ⟨d, j, hr, _, rfl⟩ := h.1 h0
  have hc : (core [1, 2, 1, 2]).1 = [1, 2, 1, 2] := by decide
  rw [hn, hc] at hr
  have h2 : IsRoot [1, 2, 1, 2] ([1, 2, 1, 2].take ([1, 2, 1, 2].length / 2)) 2 := isRoot_of_try (by decide) (by decide) (by decide) (by decide) (by
    intro j hj hl
    have : j = 3 ∨ j = 4 := by simp at hl; omega
    rcases this with rfl | rfl
    · decide
    · decide)
  have := (hr.unique h2 (by decide)).2
  omega

end Go.Proofs.Ytllalncbajpodaa
/- timbkeep1.FreeGroup, for a package freegroup that answers as it should. -/
namespace Go.Proofs.Ytllalncbajpodaa
set_option linter.unusedVariables false
set_option linter.unusedSimpArgs false
open Go.RowKit

theorem ffault_nf {xs : List Int} (h : ffault xs = 0) : ffault (nf xs) = 0 := by
  obtain ⟨h1, h2⟩ := ffault_zero h
  have := nf_len_le xs
  exact ffault_ok (by omega) fun x hx => h2 x (nf_mem hx)
theorem ffault_invw {xs : List Int} (h : ffault xs = 0) : ffault (invw xs) = 0 := by
  obtain ⟨h1, h2⟩ := ffault_zero h
  refine ffault_ok (by rw [invw_length]; exact h1) fun x hx => ?_
  unfold invw at hx
  rw [List.mem_reverse, List.mem_map] at hx
  obtain ⟨y, hy, rfl⟩ := hx
  have := h2 y hy
  omega
theorem prodE_ok {xs ys : List Int} (hx : ffault xs = 0) (hy : ffault ys = 0) (h : xs.length + ys.length ≤ 60) : prodE xs ys = 0 := by
  have := nf_len_le (xs ++ ys)
  rw [List.length_append] at this
  unfold prodE
  rw [if_pos hx, if_pos hy, if_neg (by omega)]
theorem prodL_ok {xs ys : List Int} (hx : ffault xs = 0) (hy : ffault ys = 0) (h : xs.length + ys.length ≤ 60) : prodL xs ys = nf (xs ++ ys) := by
  unfold prodL
  rw [if_pos (prodE_ok hx hy h)]
theorem nf_app_len (xs ys : List Int) : (nf (xs ++ ys)).length ≤ xs.length + ys.length := by
  have := nf_len_le (xs ++ ys)
  rwa [List.length_append] at this
theorem ffault_prod {xs ys : List Int} (hx : ffault xs = 0) (hy : ffault ys = 0) (h : xs.length + ys.length ≤ 60) : ffault (nf (xs ++ ys)) = 0 := by
  have h1 := nf_app_len xs ys
  refine ffault_ok (by omega) fun x hx' => ?_
  rcases List.mem_append.1 (nf_mem hx') with h2 | h2
  · exact (ffault_zero hx).2 x h2
  · exact (ffault_zero hy).2 x h2
/-- A slice. -/
def GivesS (w : World) (xs : List Int) (e : Ending) (w' : World) : Prop := ∃ A n c, e = .returned (.slice A n c) ∧ SL w' A n c xs ∧ Below w.heap.size w w'
/-- A word of M.Word. -/
theorem word_sl (A : Option Addr) (k l c L : Nat) (xs : List Int) (w : World) (hx : SL w A l c xs) (h0 : 0 < k) (hk : k ≤ 6) (hL : L ≤ 60) :
    Calls Try.prog 13 #[.int .i64 k, .slice A l c, .int .i64 L] w fun e w' => ∃ us B m d, e = .returned (.slice B m d) ∧ SL w' B m d us ∧ ffault us = 0 ∧ us.length ≤ L ∧ Below w.heap.size w w' := by
  refine (word_any A k l c L xs w hx.il hx.cap h0 (by omega) (by omega)).mono ?_
  rintro e w' ⟨us, B, m, d, rfl, ho, hok, hm, hb⟩
  have hl := ho.len
  exact ⟨us, B, m, d, rfl, ho.sl, ffault_ok (by omega) (fun x hx => by have := hok x hx; omega), by omega, hb⟩

set_option maxRecDepth 100000 in
set_option maxHeartbeats 2000000 in
theorem times_f (F : FreeC) (A B : Option Addr) (n c m d : Nat) (xs ys : List Int) (w : World) (ha : SL w A n c xs) (hb : SL w B m d ys) :
    Calls Try.prog 15 #[.slice A n c, .slice B m d] w (GivesS w (prodL xs ys)) := by
  have HF := hide (F.product A B n c m d xs ys w ha hb)
  clear F ha hb
  go_enter Try.func15, Try.ntmps15
  go_wp2_with fail
  refine HF.out.mono ?_
  rintro e w1 ⟨A1, n1, c1, rfl, hs1, hb1⟩
  clear HF
  have HS := hide hs1
  have HB := hide hb1
  clear hs1 hb1
  go_wp2_with fail
  go_ret
  exact ⟨A1, n1, c1, rfl, HS.out, HB.out⟩

set_option maxRecDepth 100000 in
set_option maxHeartbeats 2000000 in
theorem reduced_any (F : FreeC) (w : World) : Calls Try.prog 18 #[] w fun e w' => e = .returned (.bool true) ∧ Below w.heap.size w w' := by
  have HF := hide F
  clear F
  go_enter Try.func18, Try.ntmps18
  go_wp2_with fail
  have hl1 := SL.lit w [1, 2] (by decide) rfl rfl
  have ha1 : Below w.heap.size w (w.alloc (.cells #[.int .i64 1, .int .i64 2] 3)) := (Below.refl w.heap.size w).alloc (Nat.le_refl _) _
  have ha2 := (Below.refl (w.alloc (.cells #[.int .i64 1, .int .i64 2] 3)).heap.size _).alloc (Nat.le_refl _) (.cells #[.int .i64 (-2), .int .i64 3] 3)
  have hl2 := SL.lit (w.alloc (.cells #[.int .i64 1, .int .i64 2] 3)) [-2, 3] (by decide) rfl rfl
  have hal := ha1.trans (ha2.mono ha1.size)
  rw [World.size_alloc] at hl2
  refine (HF.out.product _ _ 2 2 2 2 [1, 2] [-2, 3] _ (hl1.below ha2) hl2).mono ?_
  rintro e w1 ⟨A1, n1, c1, rfl, hs1, hb1⟩
  rw [show prodE [1, 2] [-2, 3] = 0 from by decide]
  rw [show prodL [1, 2] [-2, 3] = [1, 3] from by decide] at hs1
  have HB1 := hide (hal.trans (hb1.mono hal.size))
  have HS1 := hide hs1
  clear hl1 hl2 ha1 ha2 hal hs1 hb1
  go_wp2_with fail
  have hl3 := SL.lit w1 [1, 3] (by decide) rfl rfl
  have hb13 := (Below.refl w1.heap.size w1).alloc (Nat.le_refl _) (.cells #[.int .i64 1, .int .i64 3] 3)
  refine (equal_any A1 _ n1 2 c1 2 [1, 3] [1, 3] _ (HS1.out.il.below hb13) hl3.il).mono ?_
  rintro e w3 ⟨rfl, hb3⟩
  rw [eqB_true rfl]
  have HB3 := hide ((HB1.out.trans (hb13.mono HB1.out.size)).trans (hb3.mono (HB1.out.trans (hb13.mono HB1.out.size)).size))
  clear hb3 hb13 hl3 HS1 HB1
  go_wp2_with fail
  go_ret
  exact ⟨rfl, HB3.out⟩

end Go.Proofs.Ytllalncbajpodaa
/- timbkeep1.FreeConjugates, for packages freegroup and foxcalc that answer as they should. (Written by tools/gen_fconj.py.) -/
namespace Go.Proofs.Ytllalncbajpodaa
set_option linter.unusedVariables false
set_option linter.unusedSimpArgs false
open Go.RowKit

/-- y x y^-1, as the law makes it. -/
def cjg (x y : List Int) : List Int := nf (nf (y ++ x) ++ invw (nf y))
theorem cjg_eq (x y : List Int) : cjg x y = nf (y ++ x ++ invw y) := by
  unfold cjg
  rw [nf_left, ← nf_invw, nf_right]
theorem cjg_nf (x y : List Int) : nf (cjg x y) = cjg x y := nf_nf _
theorem cjg_rot {x : List Int} (hx : ffault x = 0) {y : List Int} (hy : ffault y = 0) : Rot (core (nf x)).1 (core (nf (cjg x y))).1 := by
  rw [cjg_nf, cjg_eq]
  exact core_conj x (fun a ha => ((ffault_zero hx).2 a ha).1) y (fun a ha => ((ffault_zero hy).2 a ha).1)
theorem cjg_ok {x y : List Int} (hx : ffault x = 0) (hy : ffault y = 0) (lx : x.length ≤ 20) (ly : y.length ≤ 15) :
    prodL y x = nf (y ++ x) ∧ ffault (nf (y ++ x)) = 0 ∧ invL y = invw (nf y) ∧ ffault (invw (nf y)) = 0 ∧ prodL (nf (y ++ x)) (invw (nf y)) = cjg x y ∧ ffault (cjg x y) = 0 := by
  have h1 := prodL_ok hy hx (by omega)
  have h2 := ffault_prod hy hx (by omega)
  have h3 : invL y = invw (nf y) := by unfold invL; rw [if_pos hy]
  have h4 := ffault_invw (ffault_nf hy)
  have l1 := nf_app_len y x
  have l2 : (invw (nf y)).length ≤ 15 := by rw [invw_length]; have := nf_len_le y; omega
  exact ⟨h1, h2, h3, h4, prodL_ok h2 h4 (by omega), ffault_prod h2 h4 (by omega)⟩
theorem conB_ok {x y : List Int} (hx : ffault x = 0) (hy : ffault y = 0) : conB x y = conjB (core (nf x)).1 (core (nf y)).1 ∧ bothE x y = 0 := by
  have h : bothE x y = 0 := by unfold bothE; rw [if_pos hx, hy]
  unfold conB
  rw [if_pos h]
  exact ⟨rfl, h⟩
theorem conB_expo {x z : List Int} (hx : ffault x = 0) (hz : ffault z = 0) (h : conB x z = true) : LP.expo x = LP.expo z := by
  rw [(conB_ok hx hz).1] at h
  have h2 := wsum_rot (f := Int.sign) (rot_iff.1 h)
  rw [wsum_core LP.sign_neg_, wsum_core LP.sign_neg_] at h2
  exact h2
theorem cyc_parts {c : List Int} (hc : ffault c = 0) (hn : nf c = c) :
    cycL c = (core c).1 ∧ cycU c = (core c).2 ∧ ffault (core c).2 = 0 ∧ invL (core c).2 = invw (core c).2 ∧ (core c).2 ++ (core c).1 ++ invw (core c).2 = c := by
  have hs := (core_spec c).1
  have hr : Red c := by rw [← hn]; exact nf_red c
  have hru : Red (core c).2 := by
    rw [hs, List.append_assoc] at hr
    exact Red.append_left hr
  obtain ⟨h1, h2⟩ := ffault_zero hc
  have hl := congrArg List.length hs
  simp only [List.length_append] at hl
  have hu : ffault (core c).2 = 0 := ffault_ok (by omega) fun x hx => h2 x (by rw [hs]; simp [hx])
  refine ⟨by unfold cycL; rw [if_pos hc, hn], by unfold cycU; rw [if_pos hc, hn], hu, ?_, hs.symm⟩
  unfold invL
  rw [if_pos hu, nf_of_red hru]

set_option maxRecDepth 100000 in
set_option maxHeartbeats 8000000 in
theorem freeConjugates_any (F : FreeC) (G : FoxC) (A B C : Option Addr) (n c m d r q : Nat) (xs ys zs : List Int) (w : World) (ha : SL w A n c xs) (hb : SL w B m d ys) (hc : SL w C r q zs) :
    Calls Try.prog 4 #[.slice A n c, .slice B m d, .slice C r q] w fun e w' => e = .returned (.bool true) ∧ Below w.heap.size w w' := by
  have HF := hide F
  have HG := hide G
  have HA := hide ha
  have HB := hide hb
  have HC := hide hc
  have HW := hide (Below.refl w.heap.size w)
  clear F G ha hb hc
  go_enter Try.func4, Try.ntmps4
  go_wp2_with fail
  refine (word_sl A 6 n c 20 _ _ (HA.out.below HW.out) (by omega) (by omega) (by omega)).mono ?_
  rintro e w101 ⟨x, Xp, xn, xc, rfl, hs, hf, hlen, hb⟩
  replace HW := hide (HW.out.trans (hb.mono HW.out.size))
  have HX := hide hs
  have HEX := hide hf
  have HLX := hide hlen
  clear hf hlen
  clear hb hs
  go_wp2_with fail
  refine (word_sl B 6 m d 15 _ _ (HB.out.below HW.out) (by omega) (by omega) (by omega)).mono ?_
  rintro e w102 ⟨y, Yp, yn, yc, rfl, hs, hf, hlen, hb⟩
  replace HX := hide (HX.out.below hb)
  replace HW := hide (HW.out.trans (hb.mono HW.out.size))
  have HY := hide hs
  have HEY := hide hf
  have HLY := hide hlen
  clear hf hlen
  clear hb hs
  go_wp2_with fail
  refine (word_sl C 6 r q 20 _ _ (HC.out.below HW.out) (by omega) (by omega) (by omega)).mono ?_
  rintro e w103 ⟨z, Zp, zn, zc, rfl, hs, hf, hlen, hb⟩
  replace HX := hide (HX.out.below hb)
  replace HY := hide (HY.out.below hb)
  replace HW := hide (HW.out.trans (hb.mono HW.out.size))
  have HZ := hide hs
  have HEZ := hide hf
  have HLZ := hide hlen
  clear hf hlen
  clear hb hs
  clear HA HB HC
  have HCJ := hide (cjg_ok HEX.out HEY.out HLX.out HLY.out)
  have HROT := hide (cjg_rot HEX.out HEY.out)
  obtain ⟨cc, hcc⟩ : ∃ q, cjg x y = q := ⟨_, rfl⟩
  have HNC : Hid (nf cc = cc) := hide (by rw [← hcc]; exact cjg_nf x y)
  rw [hcc] at HCJ HROT
  have HEC := hide HCJ.out.2.2.2.2.2
  have HCY := hide (cyc_parts HEC.out HNC.out)
  clear hcc
  go_wp2_with fail
  refine (HF.out.inverse Yp yn yc y _ HY.out).mono ?_
  rintro e w104 ⟨Ip, i1, i2, rfl, hs, hb⟩
  replace HX := hide (HX.out.below hb)
  replace HY := hide (HY.out.below hb)
  replace HZ := hide (HZ.out.below hb)
  replace HW := hide (HW.out.trans (hb.mono HW.out.size))
  rw [HEY.out]
  rw [HCJ.out.2.2.1] at hs
  have HI := hide hs
  clear hb hs
  go_wp2_with fail
  refine (times_f HF.out Yp Xp yn yc xn xc y x _ HY.out HX.out).mono ?_
  rintro e w105 ⟨P1, p1, q1, rfl, hs, hb⟩
  replace HX := hide (HX.out.below hb)
  replace HY := hide (HY.out.below hb)
  replace HZ := hide (HZ.out.below hb)
  replace HI := hide (HI.out.below hb)
  replace HW := hide (HW.out.trans (hb.mono HW.out.size))
  rw [HCJ.out.1] at hs
  have HP := hide hs
  clear hb hs
  go_wp2_with fail
  refine (times_f HF.out P1 Ip p1 q1 i1 i2 _ _ _ HP.out HI.out).mono ?_
  rintro e w106 ⟨Cp, cn, ck, rfl, hs, hb⟩
  replace HX := hide (HX.out.below hb)
  replace HY := hide (HY.out.below hb)
  replace HZ := hide (HZ.out.below hb)
  replace HI := hide (HI.out.below hb)
  replace HP := hide (HP.out.below hb)
  replace HW := hide (HW.out.trans (hb.mono HW.out.size))
  rw [HCJ.out.2.2.2.2.1] at hs
  have HC := hide hs
  clear hb hs
  clear HI HP HCJ
  have HIS : Hid (conB x cc = true ∧ bothE x cc = 0) := hide ⟨by rw [(conB_ok HEX.out HEC.out).1]; exact rot_iff.2 HROT.out, (conB_ok HEX.out HEC.out).2⟩
  have HSO : Hid (conB z x = conB x z ∧ bothE x z = 0 ∧ bothE z x = 0) := hide ⟨by rw [(conB_ok HEZ.out HEX.out).1, (conB_ok HEX.out HEZ.out).1, conjB_comm], (conB_ok HEX.out HEZ.out).2, (conB_ok HEZ.out HEX.out).2⟩
  have HSE : Hid (conB x z = true → LP.expo x = LP.expo z) := hide (conB_expo HEX.out HEZ.out)
  obtain ⟨so, hso⟩ : ∃ q, conB x z = q := ⟨_, rfl⟩
  rw [hso] at HSO HSE
  have HSOE := hide hso
  clear hso
  go_wp2_with fail
  refine (HF.out.conjugate Xp Cp xn xc cn ck x cc _ HX.out HC.out).mono ?_
  rintro e w107 ⟨rfl, hb⟩
  replace HX := hide (HX.out.below hb)
  replace HY := hide (HY.out.below hb)
  replace HZ := hide (HZ.out.below hb)
  replace HC := hide (HC.out.below hb)
  replace HW := hide (HW.out.trans (hb.mono HW.out.size))
  rw [HIS.out.1, HIS.out.2]
  clear hb
  go_wp2_with fail
  refine (HF.out.conjugate Xp Zp xn xc zn zc x z _ HX.out HZ.out).mono ?_
  rintro e w108 ⟨rfl, hb⟩
  replace HX := hide (HX.out.below hb)
  replace HY := hide (HY.out.below hb)
  replace HZ := hide (HZ.out.below hb)
  replace HC := hide (HC.out.below hb)
  replace HW := hide (HW.out.trans (hb.mono HW.out.size))
  rw [HSOE.out, HSO.out.2.1]
  clear hb
  go_wp2_with fail
  refine (HF.out.conjugate Zp Xp zn zc xn xc z x _ HZ.out HX.out).mono ?_
  rintro e w109 ⟨rfl, hb⟩
  replace HX := hide (HX.out.below hb)
  replace HY := hide (HY.out.below hb)
  replace HZ := hide (HZ.out.below hb)
  replace HC := hide (HC.out.below hb)
  replace HW := hide (HW.out.trans (hb.mono HW.out.size))
  rw [HSO.out.1, HSO.out.2.2]
  clear hb
  go_wp2_with fail
  refine (HF.out.cyclic Xp xn xc x _ HX.out).mono ?_
  rintro e w110 ⟨Ep, en, ec, Up, un, uc, rfl, hs, hu, hb⟩
  replace HX := hide (HX.out.below hb)
  replace HY := hide (HY.out.below hb)
  replace HZ := hide (HZ.out.below hb)
  replace HC := hide (HC.out.below hb)
  replace HW := hide (HW.out.trans (hb.mono HW.out.size))
  rw [HEX.out]
  clear hu
  have HE := hide hs
  clear hb hs
  have HEL : Hid (en = (cycL x).length) := hide HE.out.il.len.symm
  go_wp2_with fail
  refine (HF.out.cyclic Cp cn ck cc _ HC.out).mono ?_
  rintro e w111 ⟨Kp, kn, kc, Vp, vn, vc, rfl, hs, hu, hb⟩
  replace HX := hide (HX.out.below hb)
  replace HY := hide (HY.out.below hb)
  replace HZ := hide (HZ.out.below hb)
  replace HC := hide (HC.out.below hb)
  replace HE := hide (HE.out.below hb)
  replace HW := hide (HW.out.trans (hb.mono HW.out.size))
  rw [HEC.out]
  rw [HCY.out.1] at hs
  rw [HCY.out.2.1] at hu
  have HK := hide hs
  have HV := hide hu
  clear hb hs hu
  have HKL : Hid (kn = (core cc).1.length) := hide HK.out.il.len.symm
  have hlen : en = kn := by rw [HEL.out, HKL.out]; unfold cycL; rw [if_pos HEX.out]; have h := HROT.out.length; rwa [HNC.out] at h
  subst hlen
  clear HEL HKL
  go_wp2_with fail
  refine (HG.out.exponent Xp xn xc x _ HX.out).mono ?_
  rintro e w112 ⟨rfl, hb⟩
  replace HX := hide (HX.out.below hb)
  replace HY := hide (HY.out.below hb)
  replace HZ := hide (HZ.out.below hb)
  replace HC := hide (HC.out.below hb)
  replace HE := hide (HE.out.below hb)
  replace HK := hide (HK.out.below hb)
  replace HV := hide (HV.out.below hb)
  replace HW := hide (HW.out.trans (hb.mono HW.out.size))
  rw [HEX.out, show expV x = LP.expo x by unfold expV; rw [if_pos HEX.out]]
  clear hb
  go_wp2_with fail
  refine (HG.out.exponent Zp zn zc z _ HZ.out).mono ?_
  rintro e w113 ⟨rfl, hb⟩
  replace HX := hide (HX.out.below hb)
  replace HY := hide (HY.out.below hb)
  replace HZ := hide (HZ.out.below hb)
  replace HC := hide (HC.out.below hb)
  replace HE := hide (HE.out.below hb)
  replace HK := hide (HK.out.below hb)
  replace HV := hide (HV.out.below hb)
  replace HW := hide (HW.out.trans (hb.mono HW.out.size))
  rw [HEZ.out, show expV z = LP.expo z by unfold expV; rw [if_pos HEZ.out]]
  clear hb
  go_wp2_with fail
  refine (HF.out.inverse Vp vn vc _ _ HV.out).mono ?_
  rintro e w114 ⟨Bp, bn, bc, rfl, hs, hb⟩
  replace HX := hide (HX.out.below hb)
  replace HY := hide (HY.out.below hb)
  replace HZ := hide (HZ.out.below hb)
  replace HC := hide (HC.out.below hb)
  replace HE := hide (HE.out.below hb)
  replace HK := hide (HK.out.below hb)
  replace HV := hide (HV.out.below hb)
  replace HW := hide (HW.out.trans (hb.mono HW.out.size))
  rw [HCY.out.2.2.1]
  rw [HCY.out.2.2.2.1] at hs
  have HBK := hide hs
  clear hb hs
  generalize LP.expo x = ex at *
  generalize LP.expo z = ez at *
  go_wp2_with fail
  refine (reduced_any HF.out _).mono ?_
  rintro e w115 ⟨rfl, hb⟩
  replace HX := hide (HX.out.below hb)
  replace HY := hide (HY.out.below hb)
  replace HZ := hide (HZ.out.below hb)
  replace HC := hide (HC.out.below hb)
  replace HE := hide (HE.out.below hb)
  replace HK := hide (HK.out.below hb)
  replace HV := hide (HV.out.below hb)
  replace HBK := hide (HBK.out.below hb)
  replace HW := hide (HW.out.trans (hb.mono HW.out.size))
  clear hb
  cases so with
  | true =>
    have hee := HSE.out rfl
    subst hee
    have hb0 : (ex == ex) = true := by simp
    go_wp2_with fail
    have HLIT := hide (show ILL (w115.alloc (.cells #[.slice Vp vn vc, .slice Kp en kc, .slice Bp bn bc] 22)) (some ⟨w115.heap.size, 0, none⟩) 3 [(core cc).2, (core cc).1, invw (core cc).2] from
      ILL.lit (vs := [.slice Vp vn vc, .slice Kp en kc, .slice Bp bn bc]) rfl (by simp) (fun j hj => by
        match j, hj with
        | 0, _ => exact ⟨_, _, _, rfl, HV.out.il⟩
        | 1, _ => exact ⟨_, _, _, rfl, HK.out.il⟩
        | 2, _ => exact ⟨_, _, _, rfl, HBK.out.il⟩
        | j + 3, h => exact absurd h (by simp)) rfl rfl)
    have hal : Below w115.heap.size w115 (w115.alloc (.cells #[.slice Vp vn vc, .slice Kp en kc, .slice Bp bn bc] 22)) := (Below.refl _ _).alloc (Nat.le_refl _) _
    have hfl : [(core cc).2, (core cc).1, invw (core cc).2].flatten = cc := by simpa [List.append_assoc] using HCY.out.2.2.2.2
    refine (concat_any (some ⟨w115.heap.size, 0, none⟩) 3 3 _ _ HLIT.out (by rw [hfl]; have := (ffault_zero HEC.out).1; omega)).mono ?_
    rintro e wf ⟨Dp, dn, dc, rfl, ho, hb0⟩
    have hb := hal.trans (hb0.mono hal.size)
    rw [hfl] at ho
    replace HX := hide (HX.out.below hb)
    replace HY := hide (HY.out.below hb)
    replace HZ := hide (HZ.out.below hb)
    replace HC := hide (HC.out.below hb)
    replace HE := hide (HE.out.below hb)
    replace HK := hide (HK.out.below hb)
    replace HV := hide (HV.out.below hb)
    replace HBK := hide (HBK.out.below hb)
    replace HW := hide (HW.out.trans (hb.mono HW.out.size))
    have HD := hide ho.sl
    clear ho hb0 hal hfl HLIT hb
    go_wp2_with fail
    refine (equal_any Dp Cp dn cn dc ck _ _ _ HD.out.il HC.out.il).mono ?_
    rintro e wg ⟨rfl, hb⟩
    rw [eqB_true rfl]
    replace HW := hide (HW.out.trans (hb.mono HW.out.size))
    clear hb
    go_wp2_with fail
    go_ret
    exact ⟨rfl, HW.out⟩
  | false =>
    go_wp2_with fail
    have HLIT := hide (show ILL (w115.alloc (.cells #[.slice Vp vn vc, .slice Kp en kc, .slice Bp bn bc] 22)) (some ⟨w115.heap.size, 0, none⟩) 3 [(core cc).2, (core cc).1, invw (core cc).2] from
      ILL.lit (vs := [.slice Vp vn vc, .slice Kp en kc, .slice Bp bn bc]) rfl (by simp) (fun j hj => by
        match j, hj with
        | 0, _ => exact ⟨_, _, _, rfl, HV.out.il⟩
        | 1, _ => exact ⟨_, _, _, rfl, HK.out.il⟩
        | 2, _ => exact ⟨_, _, _, rfl, HBK.out.il⟩
        | j + 3, h => exact absurd h (by simp)) rfl rfl)
    have hal : Below w115.heap.size w115 (w115.alloc (.cells #[.slice Vp vn vc, .slice Kp en kc, .slice Bp bn bc] 22)) := (Below.refl _ _).alloc (Nat.le_refl _) _
    have hfl : [(core cc).2, (core cc).1, invw (core cc).2].flatten = cc := by simpa [List.append_assoc] using HCY.out.2.2.2.2
    refine (concat_any (some ⟨w115.heap.size, 0, none⟩) 3 3 _ _ HLIT.out (by rw [hfl]; have := (ffault_zero HEC.out).1; omega)).mono ?_
    rintro e wf ⟨Dp, dn, dc, rfl, ho, hb0⟩
    have hb := hal.trans (hb0.mono hal.size)
    rw [hfl] at ho
    replace HX := hide (HX.out.below hb)
    replace HY := hide (HY.out.below hb)
    replace HZ := hide (HZ.out.below hb)
    replace HC := hide (HC.out.below hb)
    replace HE := hide (HE.out.below hb)
    replace HK := hide (HK.out.below hb)
    replace HV := hide (HV.out.below hb)
    replace HBK := hide (HBK.out.below hb)
    replace HW := hide (HW.out.trans (hb.mono HW.out.size))
    have HD := hide ho.sl
    clear ho hb0 hal hfl HLIT hb
    go_wp2_with fail
    refine (equal_any Dp Cp dn cn dc ck _ _ _ HD.out.il HC.out.il).mono ?_
    rintro e wg ⟨rfl, hb⟩
    rw [eqB_true rfl]
    replace HW := hide (HW.out.trans (hb.mono HW.out.size))
    clear hb
    go_wp2_with fail
    go_ret
    exact ⟨rfl, HW.out⟩
end Go.Proofs.Ytllalncbajpodaa
/- The facts 'multiplied' that the laws of polynomials begin with. -/
namespace Go.Proofs.Ytllalncbajpodaa
set_option linter.unusedVariables false
set_option linter.unusedSimpArgs false
open Go.RowKit

theorem mulR_k : LP.mulR (-1) [1, 1] 0 [1, 1] = (0, -1, [1, 2, 1]) := by
  have he : LP.of (-1) [1, 2, 1] = LP.of (-1) [1, 1] * LP.of 0 [1, 1] := LP.mk_eq fun k => by
    show (if -1 = k then (1 : Int) else 0) + ((if 0 = k then (2 : Int) else 0) + ((if 1 = k then (1 : Int) else 0) + 0)) = (if -1 = k then (1 : Int) else 0) + ((if 0 = k then (1 : Int) else 0) + ((if 0 = k then (1 : Int) else 0) + ((if 1 = k then (1 : Int) else 0) + 0)))
    grind
  have hc := LP.canon_eq (lo := -1) (cs := [1, 2, 1]) (.inr ⟨by simp, by decide, by decide⟩) he
  unfold LP.mulR LP.two2
  rw [if_pos (by decide), if_pos (by decide), LP.fit_ok (by rw [hc]; decide), hc]
theorem mulR_r : LP.mulR 0 [1, 1] 0 [1, -1] = (0, 0, [1, 0, -1]) := by
  have he : LP.of 0 [1, 0, -1] = LP.of 0 [1, 1] * LP.of 0 [1, -1] := LP.mk_eq fun k => by
    show (if 0 = k then (1 : Int) else 0) + ((if 1 = k then (0 : Int) else 0) + ((if 2 = k then (-1 : Int) else 0) + 0)) = (if 0 = k then (1 : Int) else 0) + ((if 1 = k then (-1 : Int) else 0) + ((if 1 = k then (1 : Int) else 0) + ((if 2 = k then (-1 : Int) else 0) + 0)))
    grind
  have hc := LP.canon_eq (lo := 0) (cs := [1, 0, -1]) (.inr ⟨by simp, by decide, by decide⟩) he
  unfold LP.mulR LP.two2
  rw [if_pos (by decide), if_pos (by decide), LP.fit_ok (by rw [hc]; decide), hc]

set_option maxRecDepth 100000 in
set_option maxHeartbeats 2000000 in
theorem multiplied_k (F : PolyC) (w : World) : Calls Try.prog 22 #[] w fun e w' => e = .returned (.bool true) ∧ Below w.heap.size w w' := by
  have hb1 : Below w.heap.size w (w.alloc (.cells #[.int .i64 1, .int .i64 1] 3)) := (Below.refl _ _).alloc (Nat.le_refl _) _
  have hb2 : Below w.heap.size w ((w.alloc (.cells #[.int .i64 1, .int .i64 1] 3)).alloc (.cells #[.int .i64 1, .int .i64 1] 3)) := hb1.alloc (by simp) _
  have s1 := (SL.lit w [1, 1] (by simp) rfl rfl).below ((Below.refl _ _).alloc (Nat.le_refl _) (.cells #[.int .i64 1, .int .i64 1] 3))
  have s2 := SL.lit (w.alloc (.cells #[.int .i64 1, .int .i64 1] 3)) [1, 1] (by simp) rfl rfl
  rw [World.size_alloc] at s2
  have HE := hide (F.mul (-1) _ 2 2 [1, 1] 0 _ 2 2 [1, 1] _ s1 s2 (by decide) (by decide))
  rw [mulR_k] at HE
  have HB2 := hide hb2
  clear hb1 hb2 s1 s2 F
  go_enter Try.func22, Try.ntmps22
  go_wp2_with fail
  refine HE.out.mono ?_
  rintro e w1 ⟨R, rn, rc, rfl, hs, _, hb⟩
  have HS := hide hs
  have HB1 := hide (HB2.out.trans (hb.mono HB2.out.size))
  clear HE hs hb HB2
  go_wp2_with fail
  have hb3 : Below w1.heap.size w1 ((w1.alloc (.cells #[.int .i64 (-1), .slice R rn rc] 27)).alloc (.cells #[.int .i64 1, .int .i64 2, .int .i64 1] 3)) := ((Below.refl _ _).alloc (Nat.le_refl _) _).alloc (by simp) _
  have s3 := SL.lit (w1.alloc (.cells #[.int .i64 (-1), .slice R rn rc] 27)) [1, 2, 1] (by simp) rfl rfl
  rw [World.size_alloc] at s3
  refine (same_k (-1) R rn rc [1, 2, 1] (-1) _ 3 3 [1, 2, 1] _ (HS.out.below hb3) s3).mono ?_
  rintro e w2 ⟨rfl, hb⟩
  rw [show (decide ((-1 : Int) = -1) && eqB [1, 2, 1] [1, 2, 1]) = true by rw [eqB_true rfl]; rfl]
  have HB4 := hide (HB1.out.trans ((hb3.trans (hb.mono hb3.size)).mono HB1.out.size))
  clear hb hb3 s3 HS
  go_wp2_with fail
  go_ret
  exact ⟨rfl, HB4.out⟩

end Go.Proofs.Ytllalncbajpodaa
/- timbkeep1's mul, add, same and multiplied in drawn regions. -/
namespace Go.Proofs.Ytllalncbajpodaa
set_option linter.unusedVariables false
set_option linter.unusedSimpArgs false
open Go.RowKit

theorem eMulK : ∀ args w, (callFunc 25 args).run Try.prog w = .ok (.enter 25 args) w := enters (fn := Try.f25) (by kernel_rfl) (by kernel_rfl) (by kernel_rfl)
theorem eAddK : ∀ args w, (callFunc 24 args).run Try.prog w = .ok (.enter 24 args) w := enters (fn := Try.f24) (by kernel_rfl) (by kernel_rfl) (by kernel_rfl)
theorem eSameK : ∀ args w, (callFunc 23 args).run Try.prog w = .ok (.enter 23 args) w := enters (fn := Try.f23) (by kernel_rfl) (by kernel_rfl) (by kernel_rfl)
theorem eMultK : ∀ args w, (callFunc 22 args).run Try.prog w = .ok (.enter 22 args) w := enters (fn := Try.f22) (by kernel_rfl) (by kernel_rfl) (by kernel_rfl)
/-- The product of two polynomials, as the laws reckon it. -/
theorem mul_c (F : PolyC) {x y z : LP} (hx : LP.Rt x) (hy : LP.Rt y) (hz : LP.Rt z) (e : x * y = z) (w : World) (A : Option Addr) (n c : Nat) (B : Option Addr) (m d : Nat) (ha : SL w A n c (LP.canon x).2) (hb : SL w B m d (LP.canon y).2) :
    Calls Try.prog 25 #[PV (LP.canon x).1 A n c, PV (LP.canon y).1 B m d] w (GivesP w (LP.canon z).1 (LP.canon z).2) := by
  subst e
  have h := mul_k F (LP.canon x).1 A n c (LP.canon x).2 (LP.canon y).1 B m d (LP.canon y).2 w ha hb hx.wf hy.wf
  rw [LP.mulR_canon hx hy hz] at h
  exact h
theorem add_c (F : PolyC) {x y z : LP} (hx : LP.Rt x) (hy : LP.Rt y) (hz : LP.Rt z) (e : x + y = z) (w : World) (A : Option Addr) (n c : Nat) (B : Option Addr) (m d : Nat) (ha : SL w A n c (LP.canon x).2) (hb : SL w B m d (LP.canon y).2) :
    Calls Try.prog 24 #[PV (LP.canon x).1 A n c, PV (LP.canon y).1 B m d] w (GivesP w (LP.canon z).1 (LP.canon z).2) := by
  subst e
  have h := add_k F (LP.canon x).1 A n c (LP.canon x).2 (LP.canon y).1 B m d (LP.canon y).2 w ha hb hx.wf hy.wf
  rw [LP.addR_canon hx hy hz] at h
  exact h
theorem same_c (z : LP) (w : World) (A : Option Addr) (n c : Nat) (B : Option Addr) (m d : Nat) (ha : SL w A n c (LP.canon z).2) (hb : SL w B m d (LP.canon z).2) :
    Calls Try.prog 23 #[PV (LP.canon z).1 A n c, PV (LP.canon z).1 B m d] w fun e w' => e = .returned (.bool true) ∧ Below w.heap.size w w' := by
  have h := same_k (LP.canon z).1 A n c (LP.canon z).2 (LP.canon z).1 B m d (LP.canon z).2 w ha hb
  rw [show (decide ((LP.canon z).1 = (LP.canon z).1) && eqB (LP.canon z).2 (LP.canon z).2) = true by rw [eqB_true rfl]; simp] at h
  exact h

theorem gives_eqlE {P : Program} {o : Oper} {a : Act} {w : World} {x y : Operand} {ty : TypeId} {m k : Int} {b : Bool} (ho : o.op = .binOp .eql 23 x y ty) (hx : a.eval x = .int .i64 m) (hy : a.eval y = .int .i64 k) (hz : (m == k) = b) : Gives P o a w (.bool b) := by
  subst hz
  unfold Gives execOp
  rw [ho]
  simp [hx, hy, eqGuard, binOp, Op.intCmp, Sem.run_bind, Result.andThen]
theorem gives_neqE {P : Program} {o : Oper} {a : Act} {w : World} {x y : Operand} {ty : TypeId} {m k : Int} {b : Bool} (ho : o.op = .binOp .neq 23 x y ty) (hx : a.eval x = .int .i64 m) (hy : a.eval y = .int .i64 k) (hz : (m != k) = b) : Gives P o a w (.bool b) := by
  subst hz
  unfold Gives execOp
  rw [ho]
  simp [hx, hy, eqGuard, binOp, Op.intCmp, Sem.run_bind, Result.andThen]
theorem gives_notE {P : Program} {o : Oper} {a : Act} {w : World} {x : Operand} {t : TypeId} {b c : Bool} (ho : o.op = .unOp .not t x) (hx : a.eval x = .bool b) (hc : (!b) = c) : Gives P o a w (.bool c) := by
  subst hc
  unfold Gives execOp
  rw [ho]
  simp [hx, Op.unary, Sem.run_bind, Result.andThen]
theorem gives_build {P : Program} {o : Oper} {a : Act} {w : World} {t : TypeId} {l : List (Nat × Operand)} {cells : Array Value} (vs : List (Nat × Value)) (ho : o.op = .build t l.toArray) (hv : (l.map fun (i, x) => (i, a.eval x)) = vs) (hb : P.built t vs = some cells) : Gives P o a w (.agg cells) := by
  subst hv
  unfold Gives execOp
  rw [ho]
  have e : ((l.toArray.map fun (i, x) => (i, a.eval x)).toList) = l.map fun (i, x) => (i, a.eval x) := by simp
  have := run_build (P := P) w t (l.toArray.map fun (i, x) => (i, a.eval x)) cells (by rw [e]; exact hb)
  simp only [Sem.run_bind, this, Result.andThen_ok, Sem.run_pure]
end Go.Proofs.Ytllalncbajpodaa
/- A row stored into a block: what lies elsewhere stays. -/
namespace Go.Proofs.Ytllalncbajpodaa
set_option linter.unusedVariables false
set_option linter.unusedSimpArgs false
open Go.RowKit

theorem SL.setRow_ {w : World} {A : Option Addr} {n c : Nat} {xs : List Int} (h : SL w A n c xs) {b : Nat} (hb : 0 < n → ∀ ad, A = some ad → ad.block ≠ b) (cs : Array Value) : SL (w.setRow b cs) A n c xs :=
  ⟨⟨h.il.len, h.il.small, fun hn => by
    obtain ⟨ad, e, hl, hc⟩ := h.il.mem hn
    refine ⟨ad, e, by simpa using hl, fun j hj => ?_⟩
    rw [← hc j hj]
    exact cell_setRow_other w b cs (ad.add j) (by rw [block_of_add]; exact hb hn ad e)⟩, h.nil, h.cap⟩
theorem Below.setRow_ {B g : Nat} {w0 w : World} (hb : Below B w0 w) (hBg : B ≤ g) (cs : Array Value) : Below B w0 (w.setRow g cs) :=
  ⟨hb.os, hb.tape, hb.output, by simpa using hb.size, fun k hk => (setRow_other _ _ _ _ (by omega)).trans (hb.block k hk)⟩
end Go.Proofs.Ytllalncbajpodaa
