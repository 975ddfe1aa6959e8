/- timblaw1.GroupOrders. -/
import Derived.Test.YtnpdlfnhpghkmaaSmallG
namespace Go.Proofs.Ytnpdlfnhpghkmaa
open Go.RowKit Go.Maps

set_option maxRecDepth 100000 in
set_option maxHeartbeats 4000000 in
theorem groupOrders_err (A B : Option Addr) (n : Int) (l c m d : Nat) (xss : List (List Int)) (xs : List Int) (w : World) (hx : ILL w A l xss) (hy : IL w B m xs) (hn : (Lit.int .i64 n).wf = true) (hf : gf n xss ≠ 0) :
    Calls Try.prog 3 #[.int .i64 n, .slice A l c, .slice B m d] w fun e w' => e = .returned (.bool true) ∧ Below w.heap.size w w' := by
  have hW : gfW n xss xs = gf n xss := by unfold gfW; rw [if_neg hf]
  have H9 : Hid (Alw w 9 #[.int .i64 n, .slice A l c] (.int .i64 (gf n xss))) := alw fun w' hb => gfault_any A n l c xss w' (hx.below hb) hn
  have H10 : Hid (Alw w 10 #[.int .i64 n, .slice A l c, .slice B m d] (.int .i64 (gf n xss))) := alw fun w' hb => by rw [← hW]; exact member_any A B n l c m d xss xs w' (hx.below hb) (hy.below hb) hn
  have H11 : Hid (Alw w 11 #[] (.bool true)) := alw fun w' hb => grouped_any w'
  have H12 : Hid (Alw w 12 #[.int .i64 n, .slice A l c] (.int .i64 (gf n xss))) := alw fun w' hb => gcheck_any A n l c xss w' (hx.below hb) hn
  have H13 : Hid (Alw w 13 #[.int .i64 n, .slice A l c] (.tuple #[.int .i64 0, .int .i64 (gf n xss)])) := alw fun w' hb => gorder_err A n l c xss w' (hx.below hb) hn hf
  have H14 : Hid (Alw w 14 #[.int .i64 n, .slice A l c, .slice B m d] (.tuple #[.bool false, .int .i64 (gf n xss)])) := alw fun w' hb => by
    have := gcont_err A B n l c m d xss xs w' (hx.below hb) (hy.below hb) hn (by rw [hW]; exact hf)
    rw [hW] at this
    exact this
  obtain ⟨x, hx'⟩ : ∃ x, gf n xss = x := ⟨_, rfl⟩
  rw [hx'] at H9 H10 H12 H13 H14 hf
  have h1 : (x == 0) = false := by simpa using hf
  have h2 : (x != 0) = true := by simpa using hf
  have h3 : (x != x) = false := by simp
  have hb0 : Below w.heap.size w w := Below.refl _ _
  clear hx hy hn hf hW hx'
  go_enter Try.func3, Try.ntmps3
  go_wp2_with fail
  refine (H9.out _ hb0).mono ?_
  rintro e w1 ⟨rfl, hb1⟩
  clear hb0
  go_wp2_with fail
  refine (H10.out _ hb1).mono ?_
  rintro e w2 ⟨rfl, hb2⟩
  clear hb1
  go_wp2_with fail
  refine (H11.out _ hb2).mono ?_
  rintro e w3 ⟨rfl, hb3⟩
  clear hb2
  go_wp2_with fail
  refine (H12.out _ hb3).mono ?_
  rintro e w4 ⟨rfl, hb4⟩
  clear hb3
  go_wp2_with fail
  all_goals
    refine (H13.out _ hb4).mono ?_
    rintro e w5 ⟨rfl, hb5⟩
    clear hb4
    go_wp2_with fail
    refine (H14.out _ hb5).mono ?_
    rintro e w6 ⟨rfl, hb6⟩
    clear hb5
    go_wp2
    go_ret
    exact ⟨rfl, hb6⟩

set_option maxRecDepth 100000 in
set_option maxHeartbeats 4000000 in
theorem groupOrders_big (A B : Option Addr) (n l c m d : Nat) (gl : List (List Nat)) (xs : List Int) (w : World) (hx : ILL w A l (zss gl)) (hy : IL w B m xs) (hn : n ≤ 9) (h6 : 6 < n) (hl : gl.length ≤ 6) (hP : PMs n gl) :
    Calls Try.prog 3 #[.int .i64 n, .slice A l c, .slice B m d] w fun e w' => e = .returned (.bool true) ∧ Below w.heap.size w w' := by
  have hwf : (Lit.int .i64 (n : Int)).wf = true := by
    simp [Lit.wf, IntKind.min, IntKind.max, IntKind.signed, IntKind.bits]
    omega
  have hf : gf n (zss gl) = 0 := gf_ok hn hl hP
  have H9 : Hid (Alw w 9 #[.int .i64 n, .slice A l c] (.int .i64 0)) := alw fun w' hb => by rw [← hf]; exact gfault_any A n l c _ w' (hx.below hb) hwf
  have H10 : Hid (Alw w 10 #[.int .i64 n, .slice A l c, .slice B m d] (.int .i64 (gfW n (zss gl) xs))) := alw fun w' hb => member_any A B n l c m d _ xs w' (hx.below hb) (hy.below hb) hwf
  have H11 : Hid (Alw w 11 #[] (.bool true)) := alw fun w' hb => grouped_any w'
  have H12 : Hid (Alw w 12 #[.int .i64 n, .slice A l c] (.int .i64 0)) := alw fun w' hb => by rw [← hf]; exact gcheck_any A n l c _ w' (hx.below hb) hwf
  obtain ⟨x, hx'⟩ : ∃ x, gfW n (zss gl) xs = x := ⟨_, rfl⟩
  rw [hx'] at H10
  have hb0 : Below w.heap.size w w := Below.refl _ _
  clear hx hy hl hP hf hwf hx'
  go_enter Try.func3, Try.ntmps3
  go_wp2_with fail
  refine (H9.out _ hb0).mono ?_
  rintro e w1 ⟨rfl, hb1⟩
  clear hb0
  go_wp2_with fail
  refine (H10.out _ hb1).mono ?_
  rintro e w2 ⟨rfl, hb2⟩
  clear hb1
  go_wp2_with fail
  refine (H11.out _ hb2).mono ?_
  rintro e w3 ⟨rfl, hb3⟩
  clear hb2
  go_wp2_with fail
  refine (H12.out _ hb3).mono ?_
  rintro e w4 ⟨rfl, hb4⟩
  clear hb3
  go_wp2
  go_ret
  exact ⟨rfl, hb4⟩

theorem Bfs.lookup {n : Nat} {gl : List (List Nat)} {f : List Ent} {rs : List (Array Value)} (hP : PMs n gl) (h : Bfs n (lts gl) f.length 0 f) (hlen : f.length = rs.length) {g : List Nat} (hg : PM n g) :
    (Gen n gl g ∧ ∃ j, j < f.length ∧ (entAt f j).1 = g ∧ gmF f rs (keyR g) = some (.agg (rs.getD j #[]))) ∨ (¬ Gen n gl g ∧ gmF f rs (keyR g) = none) := by
  by_cases hm : g ∈ f.map (·.1)
  · obtain ⟨e, he, heq⟩ := List.mem_map.1 hm
    obtain ⟨j, hj, rfl⟩ := mem_entAt he
    refine .inl ⟨(h.done hP g).1 hm, j, hj, heq, ?_⟩
    rw [← heq]
    refine gmF_some f rs j hlen hj fun i hi hk => ?_
    have h1 := rankN_inj (h.pm (lts_pm hP) _ (entAt_mem (show i < f.length by omega))) (h.pm (lts_pm hP) _ (entAt_mem hj)) (by unfold keyR at hk; injection hk with _ hk; exact_mod_cast hk)
    have h2 := h.nd
    have e1 : (f.map (·.1))[i]? = some (entAt f i).1 := by simp [entAt, List.getD, List.getElem?_map, List.getElem?_eq_getElem (show i < f.length by omega)]
    have e2 : (f.map (·.1))[j]? = some (entAt f j).1 := by simp [entAt, List.getD, List.getElem?_map, List.getElem?_eq_getElem hj]
    have := (List.getElem?_inj (by simp; omega) h2).1 (show (f.map (·.1))[i]? = (f.map (·.1))[j]? by rw [e1, e2, h1])
    omega
  · refine .inr ⟨fun hg' => hm ((h.done hP g).2 hg'), gmF_none f rs fun e he hk => ?_⟩
    obtain ⟨j, hj, rfl⟩ := mem_entAt he
    have := rankN_inj (h.pm (lts_pm hP) _ (entAt_mem hj)) hg (by unfold keyR at hk; injection hk with _ hk; exact_mod_cast hk)
    exact hm (List.mem_map.2 ⟨_, he, this⟩)

set_option maxRecDepth 100000 in
set_option maxHeartbeats 4000000 in
theorem groupOrders_bad (A B : Option Addr) (n l c m d : Nat) (gl : List (List Nat)) (xs : List Int) (w : World) (hx : ILL w A l (zss gl)) (hy : IL w B m xs) (h6 : n ≤ 6) (hl : gl.length ≤ 6) (hP : PMs n gl) (hW : gfW n (zss gl) xs ≠ 0) :
    Calls Try.prog 3 #[.int .i64 n, .slice A l c, .slice B m d] w fun e w' => e = .returned (.bool true) ∧ Below w.heap.size w w' := by
  have hwf : (Lit.int .i64 (n : Int)).wf = true := by
    simp [Lit.wf, IntKind.min, IntKind.max, IntKind.signed, IntKind.bits]
    omega
  have hn : n ≤ 9 := by omega
  have hf : gf n (zss gl) = 0 := gf_ok hn hl hP
  have H9 : Hid (Alw w 9 #[.int .i64 n, .slice A l c] (.int .i64 0)) := alw fun w' hb => by rw [← hf]; exact gfault_any A n l c _ w' (hx.below hb) hwf
  have H10 : Hid (Alw w 10 #[.int .i64 n, .slice A l c, .slice B m d] (.int .i64 (gfW n (zss gl) xs))) := alw fun w' hb => member_any A B n l c m d _ xs w' (hx.below hb) (hy.below hb) hwf
  have H11 : Hid (Alw w 11 #[] (.bool true)) := alw fun w' hb => grouped_any w'
  have H12 : Hid (Alw w 12 #[.int .i64 n, .slice A l c] (.int .i64 0)) := alw fun w' hb => by rw [← hf]; exact gcheck_any A n l c _ w' (hx.below hb) hwf
  have H14 : Hid (Alw w 14 #[.int .i64 n, .slice A l c, .slice B m d] (.tuple #[.bool false, .int .i64 (gfW n (zss gl) xs)])) := alw fun w' hb => gcont_err A B n l c m d _ xs w' (hx.below hb) (hy.below hb) hwf hW
  obtain ⟨ys, hys, hy5⟩ := gen_small h6 hP
  have HYS := hide hys
  have HX := hide hx
  have HP := hide hP
  obtain ⟨x, hx'⟩ : ∃ x, gfW n (zss gl) xs = x := ⟨_, rfl⟩
  rw [hx'] at H10 H14 hW
  have h1 : (x == 0) = false := by simpa using hW
  have h2 : (x != 0) = true := by simpa using hW
  have h3 : (x != x) = false := by simp
  have hb0 : Below w.heap.size w w := Below.refl _ _
  clear hx hy hP hf hwf hx' hW hys
  go_enter Try.func3, Try.ntmps3
  go_wp2_with fail
  refine (H9.out _ hb0).mono ?_
  rintro e w1 ⟨rfl, hb1⟩
  clear hb0
  go_wp2_with fail
  refine (H10.out _ hb1).mono ?_
  rintro e w2 ⟨rfl, hb2⟩
  clear hb1
  go_wp2_with fail
  refine (H11.out _ hb2).mono ?_
  rintro e w3 ⟨rfl, hb3⟩
  clear hb2
  go_wp2_with fail
  refine (H12.out _ hb3).mono ?_
  rintro e w4 ⟨rfl, hb4⟩
  clear hb3
  go_wp2_with fail
  refine (gorder_ok A n l c gl w4 (HX.out.below hb4) hn hl HP.out).mono ?_
  rintro e w5 ⟨es, hes, hle, rfl, hb5'⟩
  have hb5 := hb4.trans (hb5'.mono hb4.size)
  have HES := hide hes
  obtain ⟨a, ha⟩ : ∃ a, es.length = a := ⟨_, rfl⟩
  have HA := hide ha
  rw [ha] at hle ⊢
  clear hes hb4 hb5' ha
  go_wp2_with fail
  refine (H14.out _ hb5).mono ?_
  rintro e w6 ⟨rfl, hb6⟩
  clear hb5
  go_wp2_with fail
  refine (group_any A n l c gl ys w6 (HX.out.below hb6) h6 hl HP.out HYS.out hy5).mono ?_
  rintro e w7 ⟨b, f, rs, rfl, hbf, hgs⟩
  have hb7 := hb6.trans (hgs.below.mono hb6.size)
  have haf : f.length = a := by
    rw [← HA.out, HES.out.unique (hbf.enum hn HP.out)]
    simp [esF]
  have HD := hide hgs.dict
  rw [haf] at HD
  have h4 : ((a : Int) == (a : Int)) = true := by simp
  have h5 : (false == false) = true := rfl
  clear hbf hgs haf
  have hlen := HD.out.len Try.underlying32 3
  go_wp2
  go_ret
  exact ⟨rfl, hb7⟩

set_option maxRecDepth 100000 in
set_option maxHeartbeats 4000000 in
theorem groupOrders_ok (A B : Option Addr) (n l c m d : Nat) (gl : List (List Nat)) (g : List Nat) (w : World) (hx : ILL w A l (zss gl)) (hy : IL w B m (zs g)) (h6 : n ≤ 6) (hl : gl.length ≤ 6) (hP : PMs n gl) (hg : PM n g) :
    Calls Try.prog 3 #[.int .i64 n, .slice A l c, .slice B m d] w fun e w' => e = .returned (.bool true) ∧ Below w.heap.size w w' := by
  have hwf : (Lit.int .i64 (n : Int)).wf = true := by
    simp [Lit.wf, IntKind.min, IntKind.max, IntKind.signed, IntKind.bits]
    omega
  have hn : n ≤ 9 := by omega
  have hf : gf n (zss gl) = 0 := gf_ok hn hl hP
  have hW : gfW n (zss gl) (zs g) = 0 := gfW_ok hn hl hP hg
  have H9 : Hid (Alw w 9 #[.int .i64 n, .slice A l c] (.int .i64 0)) := alw fun w' hb => by rw [← hf]; exact gfault_any A n l c _ w' (hx.below hb) hwf
  have H10 : Hid (Alw w 10 #[.int .i64 n, .slice A l c, .slice B m d] (.int .i64 0)) := alw fun w' hb => by rw [← hW]; exact member_any A B n l c m d _ _ w' (hx.below hb) (hy.below hb) hwf
  have H11 : Hid (Alw w 11 #[] (.bool true)) := alw fun w' hb => grouped_any w'
  have H12 : Hid (Alw w 12 #[.int .i64 n, .slice A l c] (.int .i64 0)) := alw fun w' hb => by rw [← hf]; exact gcheck_any A n l c _ w' (hx.below hb) hwf
  have H16 : Hid (Alw w 16 #[.slice B m d] (.int .i64 (rankN g : Nat))) := alw fun w' hb => number_ok B m d g w' (hy.below hb) hg.1 (by rw [hg.2]; exact hn)
  obtain ⟨ys, hys, hy5⟩ := gen_small h6 hP
  have HYS := hide hys
  have HX := hide hx
  have HY := hide hy
  have HP := hide hP
  have HG := hide hg
  have hb0 : Below w.heap.size w w := Below.refl _ _
  clear hx hy hP hf hwf hW hys hg
  go_enter Try.func3, Try.ntmps3
  go_wp2_with fail
  refine (H9.out _ hb0).mono ?_
  rintro e w1 ⟨rfl, hb1⟩
  clear hb0
  go_wp2_with fail
  refine (H10.out _ hb1).mono ?_
  rintro e w2 ⟨rfl, hb2⟩
  clear hb1
  go_wp2_with fail
  refine (H11.out _ hb2).mono ?_
  rintro e w3 ⟨rfl, hb3⟩
  clear hb2
  go_wp2_with fail
  refine (H12.out _ hb3).mono ?_
  rintro e w4 ⟨rfl, hb4⟩
  clear hb3
  go_wp2_with fail
  refine (gorder_ok A n l c gl w4 (HX.out.below hb4) hn hl HP.out).mono ?_
  rintro e w5 ⟨es, hes, hle, rfl, hb5'⟩
  have hb5 := hb4.trans (hb5'.mono hb4.size)
  have HES := hide hes
  obtain ⟨a, ha⟩ : ∃ a, es.length = a := ⟨_, rfl⟩
  have HA := hide ha
  rw [ha] at hle ⊢
  clear hes hb4 hb5' ha
  go_wp2_with fail
  refine (gcont_ok A B n l c m d gl g w5 (HX.out.below hb5) (HY.out.below hb5) hn hl HP.out HG.out).mono ?_
  rintro e w6 ⟨bo, hbo, rfl, hb6'⟩
  have hb6 := hb5.trans (hb6'.mono hb5.size)
  have HBO := hide hbo
  clear hb5 hb6' hbo
  go_wp2_with fail
  refine (group_any A n l c gl ys w6 (HX.out.below hb6) h6 hl HP.out HYS.out hy5).mono ?_
  rintro e w7 ⟨b, f, rs, rfl, hbf, hgs⟩
  have hb7 := hb6.trans (hgs.below.mono hb6.size)
  have haf : f.length = a := by
    rw [← HA.out, HES.out.unique (hbf.enum hn HP.out)]
    simp [esF]
  have hlk := hbf.lookup HP.out hgs.len HG.out
  have hkq : Hid (keyOf Try.prog 3 (.int .i64 (rankN g : Nat)) = some (.int .i64 (rankN g : Nat))) := hide (keyOfR (by rw [HG.out.2]; exact hn))
  have HD := hide hgs.dict
  rw [haf] at HD
  have h4 : ((a : Int) == (a : Int)) = true := by simp
  clear hbf hgs haf
  go_wp2_with fail
  refine (number_ok B m d g w7 (HY.out.below hb7) HG.out.1 (by rw [HG.out.2]; exact hn)).mono ?_
  rintro e w8 ⟨rfl, hb8'⟩
  have hb8 := hb7.trans (hb8'.mono hb7.size)
  have HD8 := hide (HD.out.below hb8')
  have hlen := HD8.out.len Try.underlying32 3
  clear hb8' hb7 HD
  rcases hlk with ⟨hgen, j, hj, hjg, hlk⟩ | ⟨hgen, hlk⟩
  · obtain rfl : bo = true := HBO.out.2 hgen
    have HLK : Hid (gmF f rs (.int .i64 (rankN g : Nat)) = some (.agg (rs.getD j #[]))) := hlk
    clear hgen hj hjg hlk
    go_wp2_with ((with_reducible show wpList _ _ _ (Oper.mk _ (.lookup 32 _ _ _) _ _ _ _ :: _) _ _); refine wpList_look_ok _ rfl _ _ 32 rfl 3 35 key3 Try.underlying32 (zero35 _) b a (gmF f rs) rfl HD8.out (.int .i64 (rankN g : Nat)) _ rfl hkq.out ?_; rw [HLK.out]; simp only [Option.getD_some, Option.isSome_some])
    go_ret
    exact ⟨rfl, hb8⟩
  · obtain rfl : bo = false := by
      cases hb : bo with
      | false => rfl
      | true => exact absurd (HBO.out.1 hb) hgen
    have HLK : Hid (gmF f rs (.int .i64 (rankN g : Nat)) = none) := hlk
    clear hgen hlk
    go_wp2_with ((with_reducible show wpList _ _ _ (Oper.mk _ (.lookup 32 _ _ _) _ _ _ _ :: _) _ _); refine wpList_look_ok _ rfl _ _ 32 rfl 3 35 key3 Try.underlying32 (zero35 _) b a (gmF f rs) rfl HD8.out (.int .i64 (rankN g : Nat)) _ rfl hkq.out ?_; rw [HLK.out]; simp only [Option.getD_none, Option.isSome_none])
    go_ret
    exact ⟨rfl, hb8⟩

theorem groupOrders_any (A B : Option Addr) (n : Int) (l c m d : Nat) (xss : List (List Int)) (xs : List Int) (w : World) (hx : ILL w A l xss) (hy : IL w B m xs) (hn : (Lit.int .i64 n).wf = true) :
    Calls Try.prog 3 #[.int .i64 n, .slice A l c, .slice B m d] w fun e w' => e = .returned (.bool true) ∧ Below w.heap.size w w' := by
  by_cases hf : gf n xss = 0
  · obtain ⟨k, gl, rfl, hk, rfl, hl, hP⟩ := gf_zero hf
    by_cases h6 : k ≤ 6
    · by_cases hW : gfW k (zss gl) xs = 0
      · obtain ⟨k', gl', g, hkk, _, _, _, _, rfl, hg⟩ := gfW_zero hW
        obtain rfl : k = k' := by exact_mod_cast hkk
        exact groupOrders_ok A B k l c m d gl g w hx hy h6 hl hP hg
      · exact groupOrders_bad A B k l c m d gl xs w hx hy h6 hl hP hW
    · exact groupOrders_big A B k l c m d gl xs w hx hy hk (by omega) hl hP
  · exact groupOrders_err A B n l c m d xss xs w hx hy hn hf
end Go.Proofs.Ytnpdlfnhpghkmaa
