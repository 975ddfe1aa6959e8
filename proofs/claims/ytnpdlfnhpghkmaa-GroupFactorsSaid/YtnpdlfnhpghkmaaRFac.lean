/- timblaw1.GroupFactors. -/
import Derived.Test.YtnpdlfnhpghkmaaROrd
namespace Go.Proofs.Ytnpdlfnhpghkmaa
open Go.RowKit Go.Maps

theorem eq_nil (w : World) : Alw w 26 #[.slice none 0 0, .slice none 0 0] (.bool true) := fun w' hb => by
  have := equal_any none none 0 0 0 0 [] [] w' (IL.nil_ _) (IL.nil_ _)
  rw [eqB_true rfl] at this
  exact this.mono fun e w'' ⟨he, hb2⟩ => ⟨he, hb.trans (hb2.mono hb.size)⟩

set_option maxRecDepth 100000 in
set_option maxHeartbeats 4000000 in
theorem groupFactors_err (A B : Option Addr) (n : Int) (l c m d : Nat) (xss : List (List Int)) (xs : List Int) (w : World) (hx : ILL w A l xss) (hy : IL w B m xs) (hn : (Lit.int .i64 n).wf = true) (hf : gfW n xss xs ≠ 0) :
    Calls Try.prog 5 #[.int .i64 n, .slice A l c, .slice B m d] w fun e w' => e = .returned (.bool true) ∧ Below w.heap.size w w' := by
  have H10 : Hid (Alw w 10 #[.int .i64 n, .slice A l c, .slice B m d] (.int .i64 (gfW n xss xs))) := alw fun w' hb => member_any A B n l c m d xss xs w' (hx.below hb) (hy.below hb) hn
  have H11 : Hid (Alw w 11 #[] (.bool true)) := alw fun w' hb => grouped_any w'
  have H25 : Hid (Alw w 25 #[.int .i64 n, .slice A l c, .slice B m d] (.tuple #[.slice none 0 0, .int .i64 (gfW n xss xs)])) := alw fun w' hb => gfac_err A B n l c m d xss xs w' (hx.below hb) (hy.below hb) hn hf
  have H26 := hide (eq_nil w)
  obtain ⟨x, hx'⟩ : ∃ x, gfW n xss xs = x := ⟨_, rfl⟩
  rw [hx'] at H10 H25 hf
  have h1 : (x == 0) = false := by simpa using hf
  have h3 : (x == x) = true := by simp
  have hb0 : Below w.heap.size w w := Below.refl _ _
  clear hx hy hn hf hx'
  go_enter Try.func5, Try.ntmps5
  go_wp2_with fail
  refine (H10.out _ hb0).mono ?_
  rintro e w1 ⟨rfl, hb1⟩
  clear hb0
  go_wp2_with fail
  refine (H11.out _ hb1).mono ?_
  rintro e w2 ⟨rfl, hb2⟩
  clear hb1
  go_wp2_with fail
  all_goals
    refine (H25.out _ hb2).mono ?_
    rintro e w3 ⟨rfl, hb3⟩
    clear hb2
    go_wp2_with fail
    refine (H26.out _ hb3).mono ?_
    rintro e w4 ⟨rfl, hb4⟩
    clear hb3
    go_wp2
    go_ret
    exact ⟨rfl, hb4⟩

set_option maxRecDepth 100000 in
set_option maxHeartbeats 4000000 in
theorem groupFactors_big (A B : Option Addr) (n l c m d : Nat) (gl : List (List Nat)) (g : List Nat) (w : World) (hx : ILL w A l (zss gl)) (hy : IL w B m (zs g)) (hn : n ≤ 9) (h6 : 6 < n) (hl : gl.length ≤ 6) (hP : PMs n gl) (hg : PM n g) :
    Calls Try.prog 5 #[.int .i64 n, .slice A l c, .slice B m d] w fun e w' => e = .returned (.bool true) ∧ Below w.heap.size w w' := by
  have hwf : (Lit.int .i64 (n : Int)).wf = true := by
    simp [Lit.wf, IntKind.min, IntKind.max, IntKind.signed, IntKind.bits]
    omega
  have hW : gfW n (zss gl) (zs g) = 0 := gfW_ok hn hl hP hg
  have H10 : Hid (Alw w 10 #[.int .i64 n, .slice A l c, .slice B m d] (.int .i64 0)) := alw fun w' hb => by rw [← hW]; exact member_any A B n l c m d _ _ w' (hx.below hb) (hy.below hb) hwf
  have H11 : Hid (Alw w 11 #[] (.bool true)) := alw fun w' hb => grouped_any w'
  have hb0 : Below w.heap.size w w := Below.refl _ _
  clear hx hy hl hP hwf hW hg
  go_enter Try.func5, Try.ntmps5
  go_wp2_with fail
  refine (H10.out _ hb0).mono ?_
  rintro e w1 ⟨rfl, hb1⟩
  clear hb0
  go_wp2_with fail
  refine (H11.out _ hb1).mono ?_
  rintro e w2 ⟨rfl, hb2⟩
  clear hb1
  go_wp2_with fail
  refine (H11.out _ hb2).mono ?_
  rintro e w3 ⟨rfl, hb3⟩
  clear hb2
  go_wp2
  go_ret
  exact ⟨rfl, hb3⟩

set_option maxRecDepth 100000 in
set_option maxHeartbeats 4000000 in
theorem groupFactors_ok (A B : Option Addr) (n l c m d : Nat) (gl : List (List Nat)) (g : List Nat) (w : World) (hx : ILL w A l (zss gl)) (hy : IL w B m (zs g)) (h6 : n ≤ 6) (hl : gl.length ≤ 6) (hP : PMs n gl) (hg : PM n g) :
    Calls Try.prog 5 #[.int .i64 n, .slice A l c, .slice B m d] w fun e w' => e = .returned (.bool true) ∧ Below w.heap.size w w' := by
  have hwf : (Lit.int .i64 (n : Int)).wf = true := by
    simp [Lit.wf, IntKind.min, IntKind.max, IntKind.signed, IntKind.bits]
    omega
  have hn : n ≤ 9 := by omega
  have hW : gfW n (zss gl) (zs g) = 0 := gfW_ok hn hl hP hg
  have H10 : Hid (Alw w 10 #[.int .i64 n, .slice A l c, .slice B m d] (.int .i64 0)) := alw fun w' hb => by rw [← hW]; exact member_any A B n l c m d _ _ w' (hx.below hb) (hy.below hb) hwf
  have H11 : Hid (Alw w 11 #[] (.bool true)) := alw fun w' hb => grouped_any w'
  have H26 := hide (eq_nil w)
  obtain ⟨ys, hys, hy5⟩ := gen_small h6 hP
  obtain ⟨es, hes, he5⟩ := enum_small h6 hP
  have HYS := hide hys
  have HES := hide hes
  have HX := hide hx
  have HY := hide hy
  have HP := hide hP
  have HG := hide hg
  have hb0 : Below w.heap.size w w := Below.refl _ _
  clear hx hy hP hwf hW hys hg hes
  go_enter Try.func5, Try.ntmps5
  go_wp2_with fail
  refine (H10.out _ hb0).mono ?_
  rintro e w1 ⟨rfl, hb1⟩
  clear hb0
  go_wp2_with fail
  refine (H11.out _ hb1).mono ?_
  rintro e w2 ⟨rfl, hb2⟩
  clear hb1
  go_wp2_with fail
  refine (gfac_ok A B n l c m d gl g es w2 (HX.out.below hb2) (HY.out.below hb2) hn hl HP.out HG.out HES.out he5).mono ?_
  rintro e w3 ⟨hb3', hfac⟩
  have hb3 := hb2.trans (hb3'.mono hb2.size)
  have hkq : Hid (keyOf Try.prog 3 (.int .i64 (rankN g : Nat)) = some (.int .i64 (rankN g : Nat))) := hide (keyOfR (by rw [HG.out.2]; exact hn))
  have h44 : ((4 : Int) == 4) = true := rfl
  have h00 : ((0 : Int) == 0) = true := rfl
  clear hb2 hb3'
  rcases hfac with ⟨hgen, W, C, k, q, hw, rfl, ho⟩ | ⟨hgen, rfl⟩
  · have HW := hide hw
    have HO := hide ho
    have HGEN := hide hgen
    clear hw ho hgen
    go_wp2_with fail
    refine (group_any A n l c gl ys w3 (HX.out.below hb3) h6 hl HP.out HYS.out hy5).mono ?_
    rintro e w4 ⟨b, f, rs, rfl, hbf, hgs⟩
    have hb4 := hb3.trans (hgs.below.mono hb3.size)
    have hlk := hbf.lookup HP.out hgs.len HG.out
    have hlk' : ∃ j, j < f.length ∧ (entAt f j).1 = g ∧ gmF f rs (keyR g) = some (.agg (rs.getD j #[])) := by
      rcases hlk with ⟨_, h⟩ | ⟨h, _⟩
      · exact h
      · exact absurd HGEN.out h
    clear hlk
    obtain ⟨j, hj, hjg, hlk⟩ := hlk'
    have hword : W = (entAt f j).2 := HW.out.eq hbf (by have := entAt_mem hj; rwa [show entAt f j = (g, (entAt f j).2) from Prod.ext hjg rfl] at this)
    have HO4 := hide (HO.out.below hgs.below)
    go_wp2_with fail
    refine (number_ok B m d g w4 (HY.out.below hb4) HG.out.1 (by rw [HG.out.2]; exact hn)).mono ?_
    rintro e w5 ⟨rfl, hb5'⟩
    have hb5 := hb4.trans (hb5'.mono hb4.size)
    have hgs5 := hgs.to hb5'
    have HO5 := hide (HO4.out.below hb5')
    obtain ⟨P, pn, pc, Q, qn, qc, hr, ho1, ho2⟩ := hgs5.recs j hj
    rw [← hword] at ho2
    rw [hr] at hlk
    have HLK : Hid (gmF f rs (.int .i64 (rankN g : Nat)) = some (.agg #[.slice P pn pc, .slice Q qn qc])) := hlk
    have HD := hide hgs5.dict
    have ha : Below w5.heap.size w5 (w5.alloc (.cells #[.slice P pn pc, .slice Q qn qc] 35)) := (Below.refl _ _).alloc (Nat.le_refl _) _
    have HO6 := hide (HO5.out.below ha)
    have HO2 := hide (ho2.below ha)
    have hb6 := hb5.trans (ha.mono hb5.size)
    have hcell : (w5.alloc (.cells #[.slice P pn pc, .slice Q qn qc] 35)).cell? ⟨w5.heap.size, 1, none⟩ = some (.slice Q qn qc) := (Blk.new w5 35 _).cell 1
    have HEQ := hide (equal_any C Q k qn q qc W W _ HO6.out.il HO2.out.il)
    rw [eqB_true rfl] at HEQ
    clear hb3 hb4 hb5 hb5' hbf hgs hgs5 hj hjg hlk hword hr ho1 ho2 ha HO HO4 HO5
    go_wp2_with (first
      | ((with_reducible show wpList _ _ _ (Oper.mk _ (.lookup 32 _ _ _) _ _ _ _ :: _) _ _); refine wpList_look_ok _ rfl _ _ 32 rfl 3 35 key3 Try.underlying32 (zero35 _) b f.length (gmF f rs) rfl HD.out (.int .i64 (rankN g : Nat)) _ rfl hkq.out ?_; rw [HLK.out]; simp only [Option.getD_some, Option.isSome_some])
      | ((with_reducible show wpList _ _ _ (Oper.mk _ (.store 35 _ _) _ _ _ _ :: _) _ _); refine wpList_store_row rfl 35 _ _ rfl _ #[.slice P pn pc, .slice Q qn qc] rfl rfl 35 #[.slice none 0 0, .slice none 0 0] (Blk.new _ _ _) (size35' _ rfl) rfl (rec_all ⟨_, _, _, rfl⟩ ⟨_, _, _, rfl⟩) ?_; rw [World.setRow_alloc_new])
      | ((with_reducible show wpList _ _ _ (Oper.mk _ (.fieldAddr 35 _ 1) _ _ _ _ :: _) _ _); refine wpList_gives rfl (v := .pointer (some ⟨w5.heap.size, 1, none⟩)) (addr35 (by omega) rfl rfl) ?_))
    refine HEQ.out.mono ?_
    rintro e w7 ⟨rfl, hb7⟩
    have hb67 := hb6.trans (hb7.mono hb6.size)
    go_wp2
    go_ret
    exact ⟨rfl, hb67⟩
  · have HGEN := hide hgen
    clear hgen
    go_wp2_with fail
    refine (group_any A n l c gl ys w3 (HX.out.below hb3) h6 hl HP.out HYS.out hy5).mono ?_
    rintro e w4 ⟨b, f, rs, rfl, hbf, hgs⟩
    have hb4 := hb3.trans (hgs.below.mono hb3.size)
    have hlk' : gmF f rs (keyR g) = none := by
      rcases hbf.lookup HP.out hgs.len HG.out with ⟨h, _⟩ | ⟨_, h⟩
      · exact absurd h HGEN.out
      · exact h
    go_wp2_with fail
    refine (number_ok B m d g w4 (HY.out.below hb4) HG.out.1 (by rw [HG.out.2]; exact hn)).mono ?_
    rintro e w5 ⟨rfl, hb5'⟩
    have hb5 := hb4.trans (hb5'.mono hb4.size)
    have HD := hide (hgs.to hb5').dict
    have HLK : Hid (gmF f rs (.int .i64 (rankN g : Nat)) = none) := hlk'
    have hb6 := hb5.alloc hb5.size (.cells #[.slice none 0 0, .slice none 0 0] 35)
    have hcell : (w5.alloc (.cells #[.slice none 0 0, .slice none 0 0] 35)).cell? ⟨w5.heap.size, 1, none⟩ = some (.slice none 0 0) := (Blk.new w5 35 _).cell 1
    clear hb3 hb4 hb5 hb5' hbf hgs hlk'
    go_wp2_with (first
      | ((with_reducible show wpList _ _ _ (Oper.mk _ (.lookup 32 _ _ _) _ _ _ _ :: _) _ _); refine wpList_look_ok _ rfl _ _ 32 rfl 3 35 key3 Try.underlying32 (zero35 _) b f.length (gmF f rs) rfl HD.out (.int .i64 (rankN g : Nat)) _ rfl hkq.out ?_; rw [HLK.out]; simp only [Option.getD_none, Option.isSome_none])
      | ((with_reducible show wpList _ _ _ (Oper.mk _ (.store 35 _ _) _ _ _ _ :: _) _ _); refine wpList_store_row rfl 35 _ _ rfl _ #[.slice none 0 0, .slice none 0 0] rfl rfl 35 #[.slice none 0 0, .slice none 0 0] (Blk.new _ _ _) (size35' _ rfl) rfl (rec_all ⟨_, _, _, rfl⟩ ⟨_, _, _, rfl⟩) ?_; rw [World.setRow_alloc_new])
      | ((with_reducible show wpList _ _ _ (Oper.mk _ (.fieldAddr 35 _ 1) _ _ _ _ :: _) _ _); refine wpList_gives rfl (v := .pointer (some ⟨w5.heap.size, 1, none⟩)) (addr35 (by omega) rfl rfl) ?_))
    refine (H26.out _ hb6).mono ?_
    rintro e w7 ⟨rfl, hb7⟩
    go_wp2
    go_ret
    exact ⟨rfl, hb7⟩

theorem groupFactors_any (A B : Option Addr) (n : Int) (l c m d : Nat) (xss : List (List Int)) (xs : List Int) (w : World) (hx : ILL w A l xss) (hy : IL w B m xs) (hn : (Lit.int .i64 n).wf = true) :
    Calls Try.prog 5 #[.int .i64 n, .slice A l c, .slice B m d] w fun e w' => e = .returned (.bool true) ∧ Below w.heap.size w w' := by
  by_cases hf : gfW n xss xs = 0
  · obtain ⟨k, gl, g, rfl, hk, rfl, hl, hP, rfl, hg⟩ := gfW_zero hf
    by_cases h6 : k ≤ 6
    · exact groupFactors_ok A B k l c m d gl g w hx hy h6 hl hP hg
    · exact groupFactors_big A B k l c m d gl g w hx hy hk (by omega) hl hP hg
  · exact groupFactors_err A B n l c m d xss xs w hx hy hn hf
end Go.Proofs.Ytnpdlfnhpghkmaa
