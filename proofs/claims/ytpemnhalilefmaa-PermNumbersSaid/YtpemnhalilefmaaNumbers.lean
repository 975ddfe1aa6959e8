/- timbkeep1.PermNumbers. -/
import Derived.Test.YtpemnhalilefmaaUnrank
import Derived.Test.YtpemnhalilefmaaGroup
namespace Go.Proofs.Ytpemnhalilefmaa
open Go.RowKit

set_option maxHeartbeats 2000000 in
theorem permNumbers_any (n : Int) (A B : Option Addr) (la lb ca cb : Nat) (ra rb : List Int) (w : World) (ha : IL w A la ra) (hb : IL w B lb rb) :
    Calls Try.prog 10 #[.int .i64 n, .slice A la ca, .slice B lb cb] w fun e w' => e = .returned (.bool true) ∧ Below w.heap.size w w' := by
  obtain ⟨k, hk, hnk⟩ := below_zero (n := n) (m := 10) (by omega)
  have HM : Hid (∀ w, Calls Try.prog 31 #[.int .i64 n, .int .i64 10] w fun e w' => e = .returned (.int .i64 k) ∧ w = w') := fun w => by
    have := mbelow_any n 10 w (by omega) (by omega)
    rw [hnk] at this
    exact this
  clear hnk
  go_enter Try.func10, Try.ntmps10
  go_wp2_with fail
  refine (HM.out _).mono ?_
  rintro e w0 ⟨rfl, rfl⟩
  go_wp2_with fail
  refine (mperm_below k A la ca ra _ ha (by omega)).mono ?_
  rintro e w1 ⟨x, A1, n1, c1, rfl, hx, hcx, px, lx, -, hb1⟩
  have hb := hb.below hb1
  go_wp2_with fail
  refine (mperm_below k B lb cb rb _ hb (by omega)).mono ?_
  rintro e w2 ⟨y, A2, n2, c2, rfl, hy, hcy, py, ly, -, hb2⟩
  have hx := hx.below hb2
  have hb02 := hb1.trans (hb2.mono hb1.size)
  clear hb1 hb2 hb ha
  have HX : Hid (PN k x) := ⟨px, lx⟩
  have HY : Hid (PN k y) := ⟨py, ly⟩
  have hk9 : k ≤ 9 := by omega
  have HXY : Hid (x.Perm y) := px.perm.trans (by rw [lx, ← ly]; exact py.perm.symm)
  clear px py lx ly
  go_wp2_with fail
  refine (rank_ok A1 n1 c1 x _ hx hcx HX.out.1 (by rw [HX.out.2]; exact hk9)).mono ?_
  rw [rankN_eq]
  rintro e w3 ⟨rfl, hb3⟩
  have hx := hx.below hb3
  have hy := hy.below hb3
  have hb03 := hb02.trans (hb3.mono hb02.size)
  clear hb02 hb3
  go_wp2_with fail
  refine (rank_ok A2 n2 c2 y _ hy hcy HY.out.1 (by rw [HY.out.2]; exact hk9)).mono ?_
  rw [rankN_eq]
  rintro e w4 ⟨rfl, hb4⟩
  have hx := hx.below hb4
  have hy := hy.below hb4
  have hb04 := hb03.trans (hb4.mono hb03.size)
  clear hb03 hb4
  have hrx : rkL x < fct k := by have := rkL_lt x; rw [HX.out.2] at this; exact this
  have HU : Hid (unr k (List.range k) (rkL x) = x) := by
    have h1 := HX.out.1.perm
    rw [HX.out.2] at h1
    have := unr_rkL h1 (range_sorted k)
    rw [List.length_range] at this
    exact this
  have HR := hide hrx
  clear hrx
  go_wp2_with fail
  refine (unrank_ok k (rkL x) _ hk9 HR.out).mono ?_
  rw [HU.out]
  rintro e w5 ⟨A5, n5, c5, rfl, hz, hb5⟩
  have hz := hz.il
  have hx := hx.below hb5
  have hy := hy.below hb5
  have hb05 := hb04.trans (hb5.mono hb04.size)
  clear hb04 hb5
  go_wp2_with fail
  refine (kpermuted_any _).mono ?_
  rintro e w6 ⟨rfl, hb6⟩
  have hx := hx.below hb6
  have hy := hy.below hb6
  have hz := hz.below hb6
  have hb06 := hb05.trans (hb6.mono hb05.size)
  clear hb05 hb6
  go_wp2_with fail
  refine (equal_yes _ _ _ _ _ _ _ _ _ hx hz rfl).mono ?_
  rintro e w7 ⟨rfl, hb7⟩
  have hx := hx.below hb7
  have hy := hy.below hb7
  have hb07 := hb06.trans (hb7.mono hb06.size)
  clear hb06 hb7 hz
  go_wp2_with fail
  refine (compare_any _ _ _ _ _ _ _ _ _ hx hy).mono ?_
  have HL := hide (rkL_lex HXY.out)
  by_cases hlt : rkL x < rkL y
  · have hc : cmpI (zs x) (zs y) < 0 := HL.out.1 hlt
    generalize cmpI (zs x) (zs y) = v at *
    generalize rkL x = rx at *
    generalize rkL y = ry at *
    rintro e w8 ⟨rfl, rfl⟩
    go_wp2
    go_ret
    exact ⟨rfl, hb07⟩
  · have hc : ¬ cmpI (zs x) (zs y) < 0 := fun h => hlt (HL.out.2 h)
    generalize cmpI (zs x) (zs y) = v at *
    generalize rkL x = rx at *
    generalize rkL y = ry at *
    rintro e w8 ⟨rfl, rfl⟩
    go_wp2
    go_ret
    refine ⟨?_, hb07⟩
    show Ending.returned (.bool (!decide (v < 0))) = _
    rw [decide_eq_false (by omega)]
    exact rfl
end Go.Proofs.Ytpemnhalilefmaa
