/- The facts 'multiplied' that the laws of polynomials begin with. -/
import Derived.Test.YtgmjighgncpefaaPoC
namespace Go.Proofs.Ytgmjighgncpefaa
set_option linter.unusedVariables false
set_option linter.unusedSimpArgs false
open Go.RowKit

theorem mulR_k : LP.mulR (-1) [1, 1] 0 [1, 1] = (0, -1, [1, 2, 1]) := by
  have he : LP.of (-1) [1, 2, 1] = LP.of (-1) [1, 1] * LP.of 0 [1, 1] := LP.mk_eq fun k => by
    show (if -1 = k then (1 : Int) else 0) + ((if 0 = k then (2 : Int) else 0) + ((if 1 = k then (1 : Int) else 0) + 0)) = (if -1 = k then (1 : Int) else 0) + ((if 0 = k then (1 : Int) else 0) + ((if 0 = k then (1 : Int) else 0) + ((if 1 = k then (1 : Int) else 0) + 0)))
    grind
  have hc := LP.canon_eq (lo := -1) (cs := [1, 2, 1]) (.inr ⟨by simp, by decide, by decide⟩) he
  unfold LP.mulR LP.two2
  rw [if_pos (by decide), if_pos (by decide), LP.fit_ok (by rw [hc]; decide), hc]
theorem mulR_r : LP.mulR 0 [1, 1] 0 [1, -1] = (0, 0, [1, 0, -1]) := by
  have he : LP.of 0 [1, 0, -1] = LP.of 0 [1, 1] * LP.of 0 [1, -1] := LP.mk_eq fun k => by
    show (if 0 = k then (1 : Int) else 0) + ((if 1 = k then (0 : Int) else 0) + ((if 2 = k then (-1 : Int) else 0) + 0)) = (if 0 = k then (1 : Int) else 0) + ((if 1 = k then (-1 : Int) else 0) + ((if 1 = k then (1 : Int) else 0) + ((if 2 = k then (-1 : Int) else 0) + 0)))
    grind
  have hc := LP.canon_eq (lo := 0) (cs := [1, 0, -1]) (.inr ⟨by simp, by decide, by decide⟩) he
  unfold LP.mulR LP.two2
  rw [if_pos (by decide), if_pos (by decide), LP.fit_ok (by rw [hc]; decide), hc]

set_option maxRecDepth 100000 in
set_option maxHeartbeats 2000000 in
theorem multiplied_k (F : PolyC) (w : World) : Calls Try.prog 17 #[] w fun e w' => e = .returned (.bool true) ∧ Below w.heap.size w w' := by
  have hb1 : Below w.heap.size w (w.alloc (.cells #[.int .i64 1, .int .i64 1] 3)) := (Below.refl _ _).alloc (Nat.le_refl _) _
  have hb2 : Below w.heap.size w ((w.alloc (.cells #[.int .i64 1, .int .i64 1] 3)).alloc (.cells #[.int .i64 1, .int .i64 1] 3)) := hb1.alloc (by simp) _
  have s1 := (SL.lit w [1, 1] (by simp) rfl rfl).below ((Below.refl _ _).alloc (Nat.le_refl _) (.cells #[.int .i64 1, .int .i64 1] 3))
  have s2 := SL.lit (w.alloc (.cells #[.int .i64 1, .int .i64 1] 3)) [1, 1] (by simp) rfl rfl
  rw [World.size_alloc] at s2
  have HE := hide (F.mul (-1) _ 2 2 [1, 1] 0 _ 2 2 [1, 1] _ s1 s2 (by decide) (by decide))
  rw [mulR_k] at HE
  have HB2 := hide hb2
  clear hb1 hb2 s1 s2 F
  go_enter Try.func17, Try.ntmps17
  go_wp2_with fail
  refine HE.out.mono ?_
  rintro e w1 ⟨R, rn, rc, rfl, hs, _, hb⟩
  have HS := hide hs
  have HB1 := hide (HB2.out.trans (hb.mono HB2.out.size))
  clear HE hs hb HB2
  go_wp2_with fail
  have hb3 : Below w1.heap.size w1 ((w1.alloc (.cells #[.int .i64 (-1), .slice R rn rc] 25)).alloc (.cells #[.int .i64 1, .int .i64 2, .int .i64 1] 3)) := ((Below.refl _ _).alloc (Nat.le_refl _) _).alloc (by simp) _
  have s3 := SL.lit (w1.alloc (.cells #[.int .i64 (-1), .slice R rn rc] 25)) [1, 2, 1] (by simp) rfl rfl
  rw [World.size_alloc] at s3
  refine (same_k (-1) R rn rc [1, 2, 1] (-1) _ 3 3 [1, 2, 1] _ (HS.out.below hb3) s3).mono ?_
  rintro e w2 ⟨rfl, hb⟩
  rw [show (decide ((-1 : Int) = -1) && eqB [1, 2, 1] [1, 2, 1]) = true by rw [eqB_true rfl]; rfl]
  have HB4 := hide (HB1.out.trans ((hb3.trans (hb.mono hb3.size)).mono HB1.out.size))
  clear hb hb3 s3 HS
  go_wp2_with fail
  go_ret
  exact ⟨rfl, HB4.out⟩

end Go.Proofs.Ytgmjighgncpefaa
