/- freegroup.isRotation, period. -/
import Derived.Test.YtbckgomidoelaaaFgCore
namespace Go.Proofs.Ytbckgomidoelaaa
set_option linter.unusedVariables false
set_option linter.unusedSimpArgs false
open Go.RowKit

theorem rot_cut {c : List Int} {i : Nat} (h : i ≤ c.length) : ((c ++ c).drop i).take (i + c.length - i) = rotI c i := by
  rw [rotI_eq c i h, List.drop_append, show i - c.length = 0 by omega, List.drop_zero, show i + c.length - i = c.length by omega, List.take_append, List.take_of_length_le (by simp)]
  congr 2
  simp
  omega
theorem conjB_ne {c d : List Int} (h : c.length ≠ d.length) : conjB c d = false := conjB_false fun r _ e => h (by rw [← e, rotI_length])

set_option maxRecDepth 100000 in
set_option maxHeartbeats 2000000 in
theorem frot_any (A B : Option Addr) (n c m d : Nat) (xs ys : List Int) (w : World) (ha : IL w A n xs) (hb : IL w B m ys) (hn : n ≤ 100000) (hm : m ≤ 1000000) :
    Calls Try.prog 34 #[.slice A n c, .slice B m d] w fun e w' => e = .returned (.bool (conjB xs ys)) ∧ Below w.heap.size w w' := by
  have HL := hide ha.len
  have HM := hide hb.len
  have HA := hide ha
  have HB := hide hb
  obtain ⟨i0, hi0, hz0, hz1, hz2⟩ := info_parts int_info
  have HI0 := hide hi0
  have HZ1 := hide hz1
  clear ha hb hi0 hz0 hz1 hz2
  by_cases hnm : n = m
  · subst hnm
    have hg : ((n : Int) != (n : Int)) = false := by simp
    have HILL : ILL (w.alloc (.cells #[.slice A n c, .slice A n c] 22)) (some ⟨w.heap.size, 0, none⟩) 2 [xs, xs] :=
      ILL.lit (vs := [.slice A n c, .slice A n c]) rfl (by simp) (fun j hj => by
        match j, hj with
        | 0, _ => exact ⟨_, _, _, rfl, HA.out⟩
        | 1, _ => exact ⟨_, _, _, rfl, HA.out⟩
        | j + 2, h => exact absurd h (by simp)) rfl rfl
    have HCC := hide (concat_any (some ⟨w.heap.size, 0, none⟩) 2 2 _ _ HILL (by
      simp only [List.flatten_cons, List.flatten_nil, List.length_append, List.length_nil, HL.out]
      omega))
    have HB1 := hide ((Below.refl w.heap.size w).alloc (Nat.le_refl _) (.cells #[.slice A n c, .slice A n c] 22))
    clear HILL
    go_enter Try.func34, Try.ntmps34
    go_wp2_with fail
    refine HCC.out.mono ?_
    rintro e w1 ⟨T, tn, tc, rfl, ho1, hb1⟩
    have hb01 := HB1.out.trans (hb1.mono HB1.out.size)
    have ho01 : OwnI w1 w.heap.size T tn tc (xs ++ xs) := by
      have h := ho1.mono (b' := w.heap.size) (by simp)
      simpa using h
    have hbase := hb1
    have HO1 := hide ho01
    have HB01 := hide hb01
    clear ho1 hb1 hb01 ho01 HCC HB1 hbase
    go_wp2_with fail
    go_loopw [6, 19] (fun _ iv wr => ∃ i : Nat, iv = .int .i64 i ∧ i ≤ n + 1 ∧ OwnI wr w.heap.size T tn tc (xs ++ xs) ∧ Hid (∀ r, r < i → rotI xs r ≠ ys) ∧ Below w.heap.size w wr) (fun _ iv _ => n + 1 - (intOf iv).toNat)
    case atStart => exact ⟨0, rfl, Nat.zero_le _, HO1.out, fun r h => absurd h (Nat.not_lt_zero r), HB01.out⟩
    case round =>
      clear HO1 HB01
      obtain ⟨i, rfl, hi, ho, HNO, hb⟩ := hrel
      have HO := hide ho
      have HBB := hide hb
      have htl := ho.len
      rw [List.length_append, HL.out] at htl
      have hcap := ho.cap
      have hwb : IntKind.i64.wrap ((n : Int) + 1) = (n : Int) + 1 := by rw [IntKind.wrap_i64]; omega
      by_cases hlt : i < n + 1
      · have h1 : i ≤ i + n := by omega
        have h2 : i + n ≤ tn := by omega
        have h3 : i + n ≤ tc := by omega
        have hc := ho.il.cut (c := tc) h1 h2 hcap
        have hrc := rot_cut (c := xs) (i := i) (by rw [HL.out]; omega)
        rw [HL.out] at hrc
        rw [hrc, Nat.add_sub_cancel_left] at hc
        have HE := hide (equal_any (cutA T i tc) B n n (tc - i) d _ _ wr hc (HB.out.below hb))
        have HH := hide (And.intro h1 h3)
        have HWI : Hid (IntKind.i64.wrap ((i : Int) + (n : Int)) = ((i + n : Nat) : Int)) := hide (by rw [IntKind.wrap_i64]; omega)
        clear ho hb hc hrc htl h1 h2 h3
        by_cases heq : rotI xs i = ys
        · have HQ := hide (eqB_true heq)
          have HR := hide (conjB_true (show i ≤ xs.length by rw [HL.out]; omega) heq)
          clear heq HO
          go_wp2_with ((with_reducible show wpList _ _ _ (Oper.mk _ (.slice 22 _ _ _ _) _ _ _ _ :: _) _ _); refine wpList_gives rfl (v := .slice (cutA T i tc) (i + n - i) (tc - i)) (gives_cut_lh rfl Try.underlying22 (by rw [HI0.out]; exact congrArg some HZ1.out) rfl rfl (congrArg (Value.int .i64) (Int.natCast_add i n).symm) HH.out.1 HH.out.2) ?_)
          refine HE.out.mono ?_
          rintro e w5 ⟨rfl, hb5⟩
          rw [HQ.out]
          have HB5 := hide (HBB.out.trans (hb5.mono HBB.out.size))
          clear hb5 HE
          go_wp2_with fail
          go_ret
          exact ⟨by rw [HR.out]; rfl, HB5.out⟩
        · have HQ := hide (eqB_false heq)
          have HNO2 : Hid (∀ r, r < i + 1 → rotI xs r ≠ ys) := fun r hr => by
            rcases Nat.lt_succ_iff_lt_or_eq.1 hr with h | rfl
            · exact HNO.out r h
            · exact heq
          clear heq HNO
          go_wp2_with ((with_reducible show wpList _ _ _ (Oper.mk _ (.slice 22 _ _ _ _) _ _ _ _ :: _) _ _); refine wpList_gives rfl (v := .slice (cutA T i tc) (i + n - i) (tc - i)) (gives_cut_lh rfl Try.underlying22 (by rw [HI0.out]; exact congrArg some HZ1.out) rfl rfl (congrArg (Value.int .i64) (Int.natCast_add i n).symm) HH.out.1 HH.out.2) ?_)
          refine HE.out.mono ?_
          rintro e w5 ⟨rfl, hb5⟩
          rw [HQ.out]
          have HB5 := hide (HBB.out.trans (hb5.mono HBB.out.size))
          have HO5 := hide (HO.out.below hb5)
          clear hb5 HE
          go_wp2_with fail
          go_roundw
          case rel => exact ⟨i + 1, by go_num, by omega, HO5.out, HNO2.out, HB5.out⟩
          case measure => simp [intOf]; omega
      · have HF : Hid (conjB xs ys = false) := hide (conjB_false fun r hr => HNO.out r (by rw [HL.out] at hr; omega))
        clear HNO ho hb
        go_wp2_with fail
        go_ret
        exact ⟨by rw [HF.out]; rfl, HBB.out⟩
  · have hg : ((n : Int) != (m : Int)) = true := by simp; omega
    have HF : Hid (conjB xs ys = false) := hide (conjB_ne (by rw [HL.out, HM.out]; exact hnm))
    go_enter Try.func34, Try.ntmps34
    go_wp2_with fail
    go_ret
    exact ⟨by rw [HF.out]; rfl, Below.refl _ _⟩
end Go.Proofs.Ytbckgomidoelaaa
