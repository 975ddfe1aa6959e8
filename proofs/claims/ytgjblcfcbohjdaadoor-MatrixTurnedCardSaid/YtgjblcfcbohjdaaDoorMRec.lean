/- The facts 'reckoned' that the laws of matrices begin with. -/
import Derived.Test.YtgjblcfcbohjdaaDoorMatC
import Derived.Test.YtgjblcfcbohjdaaDoorEqual
namespace Go.Proofs.YtgjblcfcbohjdaaDoor
set_option linter.unusedVariables false
set_option linter.unusedSimpArgs false
open Go.RowKit

/-- A matrix of two rows, written out. -/
theorem lit22 (w : World) (a b c d : Int) : SLL (((w.alloc (.cells #[.int .i64 a, .int .i64 b] 3)).alloc (.cells #[.int .i64 c, .int .i64 d] 3)).alloc (.cells #[.slice (some ⟨w.heap.size, 0, none⟩) 2 2, .slice (some ⟨w.heap.size + 1, 0, none⟩) 2 2] 28)) (some ⟨w.heap.size + 1 + 1, 0, none⟩) 2 2 [[a, b], [c, d]] ∧
    Below w.heap.size w (((w.alloc (.cells #[.int .i64 a, .int .i64 b] 3)).alloc (.cells #[.int .i64 c, .int .i64 d] 3)).alloc (.cells #[.slice (some ⟨w.heap.size, 0, none⟩) 2 2, .slice (some ⟨w.heap.size + 1, 0, none⟩) 2 2] 28)) := by
  have h1 := SL.lit w [a, b] (by simp) rfl rfl
  have h2 := SL.lit (w.alloc (.cells #[.int .i64 a, .int .i64 b] 3)) [c, d] (by simp) rfl rfl
  have hb1 : Below w.heap.size w (w.alloc (.cells #[.int .i64 a, .int .i64 b] 3)) := (Below.refl _ _).alloc (Nat.le_refl _) _
  have hb2 := hb1.alloc (by simp) (.cells #[.int .i64 c, .int .i64 d] 3)
  have hb3 := hb2.alloc (by simp; omega) (.cells #[.slice (some ⟨w.heap.size, 0, none⟩) 2 2, .slice (some ⟨w.heap.size + 1, 0, none⟩) 2 2] 28)
  refine ⟨?_, hb3⟩
  have h := SLL.lit (w := (w.alloc (.cells #[.int .i64 a, .int .i64 b] 3)).alloc (.cells #[.int .i64 c, .int .i64 d] 3)) (vs := [.slice (some ⟨w.heap.size, 0, none⟩) 2 2, .slice (some ⟨w.heap.size + 1, 0, none⟩) 2 2]) (xss := [[a, b], [c, d]]) rfl (by simp) (fun j hj => by
    match j, hj with
    | 0, _ => exact ⟨_, _, _, rfl, h1.below ((Below.refl _ _).alloc (Nat.le_refl _) _)⟩
    | 1, _ => exact ⟨_, _, _, rfl, by simpa using h2⟩
    | j + 2, h => exact absurd h (by simp)) rfl rfl
  simpa using h

set_option maxRecDepth 100000 in
set_option maxHeartbeats 2000000 in
theorem reckoned_any (F : MatC) (w : World) (hT : TabW w) : Calls Tryd.prog 12 #[] w fun e w' => e = .returned (.bool true) ∧ Below w.heap.size w w' := by
  have HF := hide F
  have HTW := hide hT
  clear hT
  have hl := lit22 w 2 0 0 3
  have HL := hide hl.1
  have HB := hide hl.2
  clear F hl
  go_enter Tryd.func12, Tryd.ntmps12
  go_wp2_with fail
  refine (HF.out.det _ 2 2 _ _ HL.out (HTW.out.below HB.out)).mono ?_
  rintro e w1 ⟨rfl, hb1⟩
  rw [show detV [[2, 0], [0, 3]] = 6 by decide, show detE [[2, 0], [0, 3]] = 0 by decide]
  have HL1 := hide (HL.out.below hb1)
  have HB1 := hide (HB.out.trans (hb1.mono HB.out.size))
  clear hb1 HL HB
  go_wp2_with fail
  refine (HF.out.smith _ 2 2 _ _ HL1.out (HTW.out.below HB1.out)).mono ?_
  rintro e w2 ⟨S, sn, sc, rfl, hs, hb2⟩
  rw [show mfault [[2, 0], [0, 3]] = 0 by decide]
  rw [smith23] at hs
  have HS := hide hs
  have HB2 := hide (HB1.out.trans (hb2.mono HB1.out.size))
  clear hb2 hs HL1 HB1
  go_wp2_with fail
  have hlit := IL.lit w2 [1, 6] (by simp) rfl rfl
  have hb3 := (Below.refl w2.heap.size w2).alloc (Nat.le_refl _) (.cells #[.int .i64 1, .int .i64 6] 3)
  refine (equal_any S _ sn 2 sc 2 [1, 6] [1, 6] _ (HS.out.il.below hb3) hlit).mono ?_
  rintro e w3 ⟨rfl, hb4⟩
  rw [eqB_true rfl]
  have HB3 := hide ((HB2.out.trans (hb3.mono HB2.out.size)).trans (hb4.mono (HB2.out.trans (hb3.mono HB2.out.size)).size))
  clear hb3 hb4 hlit HS HB2
  go_wp2_with fail
  go_ret
  exact ⟨rfl, HB3.out⟩

set_option maxRecDepth 100000 in
set_option maxHeartbeats 2000000 in
theorem reckoned2_any (F : MatC) (w : World) (hT : TabW w) : Calls Tryd.prog 24 #[] w fun e w' => e = .returned (.bool true) ∧ Below w.heap.size w w' := by
  have HF := hide F
  have HTW := hide hT
  clear hT
  have hl := lit22 w 1 2 3 4
  have HL := hide hl.1
  have HB := hide hl.2
  clear F hl
  go_enter Tryd.func24, Tryd.ntmps24
  go_wp2_with fail
  refine (HF.out.det _ 2 2 _ _ HL.out (HTW.out.below HB.out)).mono ?_
  rintro e w1 ⟨rfl, hb1⟩
  rw [show detV [[1, 2], [3, 4]] = -2 by decide, show detE [[1, 2], [3, 4]] = 0 by decide]
  have HB1 := hide (HB.out.trans (hb1.mono HB.out.size))
  clear hb1 HL HB
  go_wp2_with fail
  go_ret
  exact ⟨rfl, HB1.out⟩
end Go.Proofs.YtgjblcfcbohjdaaDoor
