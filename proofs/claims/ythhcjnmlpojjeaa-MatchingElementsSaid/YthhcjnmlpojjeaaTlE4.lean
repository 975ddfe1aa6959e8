/- timbref1.Planar: all planar matchings. -/
import Derived.Test.YthhcjnmlpojjeaaTlE3
import Derived.Test.YthhcjnmlpojjeaaTlM
namespace Go.Proofs.Ythhcjnmlpojjeaa
set_option linter.unusedVariables false
set_option linter.unusedSimpArgs false
open Go.RowKit

theorem toI_zero (k : Nat) : toI (List.replicate k 0) = rep [-1] k := by
  unfold toI
  rw [List.map_replicate]
  induction k with
  | zero => rfl
  | succ k ih => rw [rep_succ, ← ih, List.replicate_succ]; rfl

set_option maxRecDepth 100000 in
set_option maxHeartbeats 8000000 in
theorem planar_any (n : Nat) (w : World) (h0 : 1 ≤ n) (h6 : n ≤ 6) :
    Calls Try.prog 23 #[.int .i64 n] w fun e w' => ∃ E en ec, e = .returned (.slice E en ec) ∧ ILL w' E en ((Tl.plan n).map zs) ∧ Below w.heap.size w w' := by
  have hw2 : IntKind.i64.wrap (2 * (n : Int)) = ((2 * n : Nat) : Int) := by rw [IntKind.wrap_i64]; omega
  obtain ⟨N, hN⟩ : ∃ N, 2 * n = N := ⟨_, rfl⟩
  rw [hN] at hw2
  have hN0 : 0 < N := by omega
  have hN12 : N ≤ 12 := by omega
  have HN := hide hN
  have e1 := ePlX
  clear hN
  go_enter Try.func23, Try.ntmps23
  go_wp2_with fail
  have hs1 : (w.alloc (.cells #[.int .i64 (n : Int)] 3)).heap.size = w.heap.size + 1 := World.size_alloc ..
  have hs2 : ((w.alloc (.cells #[.int .i64 (n : Int)] 3)).alloc (.cells #[.slice none 0 0] 39)).heap.size = w.heap.size + 1 + 1 := by rw [World.size_alloc, hs1]
  have hlit := IL.lit ((w.alloc (.cells #[.int .i64 (n : Int)] 3)).alloc (.cells #[.slice none 0 0] 39)) [-1] (by decide) (cs := #[.int .i64 (-1)]) rfl (m := 1) rfl
  have hnb : Blk (((w.alloc (.cells #[.int .i64 (n : Int)] 3)).alloc (.cells #[.slice none 0 0] 39)).alloc (.cells #[.int .i64 (-1)] 3)) w.heap.size 3 #[.int .i64 (n : Int)] := ((Blk.new w _ _).alloc _).alloc _
  have hob : Blk (((w.alloc (.cells #[.int .i64 (n : Int)] 3)).alloc (.cells #[.slice none 0 0] 39)).alloc (.cells #[.int .i64 (-1)] 3)) (w.heap.size + 1) 39 #[.slice none 0 0] := by rw [← hs1]; exact (Blk.new _ _ _).alloc _
  have hbl : Below w.heap.size w (((w.alloc (.cells #[.int .i64 (n : Int)] 3)).alloc (.cells #[.slice none 0 0] 39)).alloc (.cells #[.int .i64 (-1)] 3)) := (((Below.refl _ _).alloc (Nat.le_refl _) _).alloc (by rw [hs1]; omega) _).alloc (by rw [hs2]; omega) _
  have hs3 : w.heap.size + 1 + 1 < (((w.alloc (.cells #[.int .i64 (n : Int)] 3)).alloc (.cells #[.slice none 0 0] 39)).alloc (.cells #[.int .i64 (-1)] 3)).heap.size := by rw [World.size_alloc, hs2]; omega
  rw [hs2] at hlit
  generalize (((w.alloc (.cells #[.int .i64 (n : Int)] 3)).alloc (.cells #[.slice none 0 0] 39)).alloc (.cells #[.int .i64 (-1)] 3)) = w3 at *
  have HRP := hide (repeat_any _ 1 1 N [-1] w3 hlit (by omega) hN0 (by omega))
  have HNB := hide hnb
  have HOB := hide hob
  have HBL := hide hbl
  clear hs1 hs2 hlit hnb hob hbl
  refine HRP.out.mono ?_
  rintro e w4 ⟨A4, n4, c4, rfl, ho, hb4⟩
  have hn4 : n4 = N := by have := ho.len; rw [rep_length] at this; simpa using this.symm
  subst hn4
  obtain ⟨g, rfl, hg1, hg2⟩ := ho.form hN0
  have HNB4 := hide (HNB.out.below hb4 HNB.out.lt)
  have HOB4 := hide (HOB.out.below hb4 HOB.out.lt)
  have HBL4 := hide (HBL.out.trans (hb4.mono (by omega)))
  have HO := hide ho
  have hs4 := hb4.size
  clear HNB HOB HBL HRP ho hb4
  go_upto_region 3 with fail
  have hdb := Blk.new w4 22 #[.slice (some ⟨g, 0, none⟩) n4 c4]
  have hs5 : w4.heap.size < (w4.alloc (.cells #[.slice (some ⟨g, 0, none⟩) n4 c4] 22)).heap.size := by rw [World.size_alloc]; omega
  have HNB5 := hide (HNB4.out.alloc (.cells #[.slice (some ⟨g, 0, none⟩) n4 c4] 22))
  have HOB5 := hide (HOB4.out.alloc (.cells #[.slice (some ⟨g, 0, none⟩) n4 c4] 22))
  have HO5 := hide (HO.out.alloc (.cells #[.slice (some ⟨g, 0, none⟩) n4 c4] 22))
  have HBL5 := hide (HBL4.out.alloc (show w.heap.size ≤ w4.heap.size by omega) (.cells #[.slice (some ⟨g, 0, none⟩) n4 c4] 22))
  have HDB := hide hdb
  clear hdb HNB4 HOB4 HBL4 HO
  generalize w4.alloc (.cells #[.slice (some ⟨g, 0, none⟩) n4 c4] 22) = w5 at *
  generalize w4.heap.size = bd at *
  go_upto_region 5 with fail
  have hs6 : (w5.alloc (.cells #[(.func (.func 51) #[] #[.pointer (some ⟨bd, 0, none⟩), .pointer (some ⟨w.heap.size, 0, none⟩), .pointer (some ⟨w.heap.size + 1, 0, none⟩), .pointer (some ⟨w5.heap.size, 0, none⟩)])] 1)).heap.size = w5.heap.size + 1 := World.size_alloc ..
  have HPN : Hid (Pn w (w5.heap.size + 1) w.heap.size bd (w.heap.size + 1) w5.heap.size g n n4 c4 (.func (.func 51) #[] #[.pointer (some ⟨bd, 0, none⟩), .pointer (some ⟨w.heap.size, 0, none⟩), .pointer (some ⟨w.heap.size + 1, 0, none⟩), .pointer (some ⟨w5.heap.size, 0, none⟩)]) (List.replicate n4 0) [] (w5.alloc (.cells #[(.func (.func 51) #[] #[.pointer (some ⟨bd, 0, none⟩), .pointer (some ⟨w.heap.size, 0, none⟩), .pointer (some ⟨w.heap.size + 1, 0, none⟩), .pointer (some ⟨w5.heap.size, 0, none⟩)])] 1))) := hide ⟨HBL5.out.alloc (by omega) _, by rw [hs6]; exact Nat.le_refl _, HNB5.out.alloc _, HDB.out.alloc _, Blk.new w5 _ _, by rw [toI_zero]; exact (HO5.out.alloc _).mono (Nat.zero_le _), ⟨none, 0, 0, [], HOB5.out.alloc _, OwnV.nil_ _ _, RowsI.nil_ _ _⟩⟩
  have HB : Hid (PnB w.heap.size (w5.heap.size + 1) w.heap.size bd (w.heap.size + 1) w5.heap.size g) := hide ⟨by omega, by omega, by omega, by omega, by omega, by omega, by omega⟩
  have hfp := fill_plan h0 h6
  rw [HN.out] at hfp
  have hlen : ((Tl.fillN (n + 1) (List.replicate n4 0)).filter (plF n)).length ≤ 132 := by
    have h := congrArg List.length hfp
    rw [List.length_map, List.length_map] at h
    rw [h]
    obtain ⟨c1, c2, c3, c4, c5, c6⟩ := plan_len
    rcases (show n = 1 ∨ n = 2 ∨ n = 3 ∨ n = 4 ∨ n = 5 ∨ n = 6 by omega) with h | h | h | h | h | h <;> subst h <;> omega
  have HQ := hide (planar1_any w (w5.heap.size + 1) w.heap.size bd (w.heap.size + 1) w5.heap.size g n n4 c4 HB.out HN.out (by omega) (n + 1) (List.replicate n4 0) [] _ (by rw [List.count_replicate_self]; have := HN.out; omega) (by rw [List.length_nil]; omega) HPN.out)
  have HBF := hide HPN.out.fb
  rw [List.nil_append] at HQ
  have HFP := hide hfp
  clear hfp hlen HPN HNB5 HOB5 HO5 HBL5 HDB hs6 hs3 hs4 hs5 hg1 hg2 hw2
  generalize w5.alloc (.cells #[(.func (.func 51) #[] #[.pointer (some ⟨bd, 0, none⟩), .pointer (some ⟨w.heap.size, 0, none⟩), .pointer (some ⟨w.heap.size + 1, 0, none⟩), .pointer (some ⟨w5.heap.size, 0, none⟩)])] 1) = w6 at *
  have hcf := HBF.out.cell 0
  simp at hcf
  clear HBF
  go_wp2_with fail
  refine HQ.out.mono ?_
  rintro e w7 ⟨rfl, hP⟩
  have hbw := hP.blw
  obtain ⟨E, en, ec, vs, hbo, hov, hrs⟩ := hP.outs
  rw [HFP.out] at hrs
  have HILL := hide (ILL.of_rows hov hrs)
  have HBW := hide hbw
  have hco := hbo.cell 0
  simp at hco
  clear hP hbw hbo hov hrs HQ hcf HFP HB
  go_wp2_with fail
  go_ret
  exact ⟨E, en, ec, rfl, HILL.out, HBW.out⟩
end Go.Proofs.Ythhcjnmlpojjeaa
