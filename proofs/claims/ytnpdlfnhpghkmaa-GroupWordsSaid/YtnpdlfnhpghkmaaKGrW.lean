/- timbkeep1.GroupWords. -/
import Derived.Test.YtnpdlfnhpghkmaaKVal
import Derived.Test.YtnpdlfnhpghkmaaLagr
import Derived.Deep.DeepCutAuto
namespace Go.Proofs.Ytnpdlfnhpghkmaa
open Go.RowKit Go.Maps
set_option linter.unusedVariables false
set_option linter.unusedSimpArgs false

theorem lg_ltAt {gl : List (List Nat)} {x : Int} (h0 : x ≠ 0) (h1 : x ≤ gl.length) (h2 : -(gl.length : Int) ≤ x) : ∃ c, c < (lts gl).length ∧ (ltAt (lts gl) c).2 = lg gl x := by
  have hl := ltsTo_length gl gl.length
  unfold lg
  by_cases hx : x < 0
  · rw [if_pos hx]
    have := (ltsTo_at gl gl.length (-x - 1).toNat (by omega)).2
    exact ⟨2 * (-x - 1).toNat + 1, by unfold lts; omega, by unfold lts; rw [this]⟩
  · rw [if_neg hx]
    have := (ltsTo_at gl gl.length (x - 1).toNat (by omega)).1
    exact ⟨2 * (x - 1).toNat, by unfold lts; omega, by unfold lts; rw [this]⟩
theorem wv_val {n : Nat} {gl : List (List Nat)} (hP : PMs n gl) : ∀ {us : List Int}, (∀ x ∈ us, x ≠ 0 ∧ x ≤ gl.length ∧ -(gl.length : Int) ≤ x) → ∀ i, i ≤ us.length → Val n (lts gl) i (wv n gl (us.take i)) ∧ Gen n gl (wv n gl (us.take i))
  | us, _, 0, _ => by rw [List.take_zero]; exact ⟨.nil, .one⟩
  | us, h, i + 1, hi => by
    have hm : us.getD i 0 ∈ us := by
      rw [show us.getD i 0 = us[i] by simp [List.getD, List.getElem?_eq_getElem (show i < us.length by omega)]]
      exact List.getElem_mem _
    obtain ⟨h0, h1, h2⟩ := h _ hm
    obtain ⟨c, hc, he⟩ := lg_ltAt h0 h1 h2
    have ih := wv_val hP h i (by omega)
    rw [wv_take (by omega), ← he]
    exact ⟨.snoc ih.1 hc, ih.2.comp hP (lts_gen hP (ltAt_mem hc))⟩
theorem word_short {n : Nat} {gl : List (List Nat)} {us W : List Int} (hP : PMs n gl) (hus : ∀ x ∈ us, x ≠ 0 ∧ x ≤ gl.length ∧ -(gl.length : Int) ≤ x) (h : IsWord n gl (wv n gl us) W) :
    W.length ≤ us.length ∧ wv n gl W = wv n gl us ∧ ∀ x ∈ W, x ≠ 0 ∧ x ≤ gl.length ∧ -(gl.length : Int) ≤ x := by
  obtain ⟨f, i, hb, hi, hp, rfl⟩ := h
  have hv := (wv_val hP hus us.length (Nat.le_refl _)).1
  rw [List.take_of_length_le (Nat.le_refl _)] at hv
  have hw := hb.word _ (entAt_mem hi)
  exact ⟨hb.short hi (Nat.le_refl _) (by rw [hp]; exact hv), by rw [← hw.1, hp], hw.2⟩

set_option maxRecDepth 100000 in
set_option maxHeartbeats 4000000 in
theorem groupWords_any (n : Int) (A C : Option Addr) (l c m d : Nat) (xss : List (List Int)) (xs : List Int) (w : World) (hx : ILL w A l xss) (hc : l ≤ c) (hy : IL w C m xs) (hd : m ≤ d) :
    Calls Try.prog 8 #[.int .i64 n, .slice A l c, .slice C m d] w fun e w' => e = .returned (.bool true) ∧ Below w.heap.size w w' := by
  obtain ⟨k, hk, hnk⟩ := below_zero (n := n) (m := 6) (by omega)
  have HM : Hid (∀ w, Calls Try.prog 27 #[.int .i64 n, .int .i64 6] w fun e w' => e = .returned (.int .i64 k) ∧ w = w') := fun w => by
    have := mbelow_any n 6 w (by omega) (by omega)
    rw [hnk] at this
    exact this
  have HX := hide hx
  have HY := hide hy
  clear hnk hx hy
  go_enter Try.func8, Try.ntmps8
  go_wp2_with fail
  refine (HM.out _).mono ?_
  rintro e w0 ⟨rfl, rfl⟩
  go_wp2_with fail
  obtain ⟨N, hN⟩ : ∃ N : Nat, N = k + 1 := ⟨_, rfl⟩
  rw [show (1 + (k : Int)) = (N : Int) by omega]
  have hN6 : N ≤ 6 := by omega
  have hN0 : 0 < N := by omega
  clear hN hk
  have hb1 : Below w.heap.size w (w.alloc (.cells #[.int .i64 N] 3)) := (Below.refl _ _).alloc (Nat.le_refl _) _
  have BN1 : Blk (w.alloc (.cells #[.int .i64 N] 3)) w.heap.size 3 #[.int .i64 N] := Blk.new _ _ _
  generalize hgn : w.heap.size = gn at *
  generalize w.alloc (.cells #[.int .i64 N] 3) = w1 at *
  have HGN := hide hgn
  clear hgn
  have hb1' : Below w.heap.size w w1 := by rw [HGN.out]; exact hb1
  have HB1 := hide hb1'
  clear hb1 hb1'
  refine (perms_any A N l c xss 3 w1 (HX.out.below HB1.out) hc (by omega) (by omega)).mono ?_
  rintro e w2 ⟨gl, B, q, qd, rfl, hill, hqd, hq3, hP, hb2⟩
  have hgl : gl.length = q := by have := hill.len; simpa [zss] using this
  have HGL := hide hgl
  have HP := hide hP
  have HI := hide (hill.below ((Below.refl _ _).alloc (Nat.le_refl _) (.cells #[.slice B q qd] 22)))
  have BN2 := (BN1.below hb2 BN1.lt).alloc (.cells #[.slice B q qd] 22)
  have BB2 : Blk (w2.alloc (.cells #[.slice B q qd] 22)) w2.heap.size 22 #[.slice B q qd] := Blk.new _ _ _
  have hbw2 : Below w.heap.size w (w2.alloc (.cells #[.slice B q qd] 22)) := (HB1.out.trans (hb2.mono HB1.out.size)).alloc (by have := HB1.out.size; have := hb2.size; omega) _
  have hz2 : w1.heap.size ≤ w2.heap.size := hb2.size
  have hltn := BN1.lt
  clear hill hP hgl BN1 hb2
  go_upto_if 25 with fail
  generalize hgb : w2.heap.size = gb at *
  generalize w2.alloc (.cells #[.slice B q qd] 22) = w3 at *
  have HGB := hide hgb
  have HBW := hide hbw2
  clear hgb hbw2
  have hcn : w3.cell? ⟨gn, 0, none⟩ = some (.int .i64 N) := BN2.cell 0
  have hngb : gn ≠ gb := by omega
  go_cut [28] (fun _ wx => ∃ (B' : Option Addr) (q' d' : Nat) (gl' : List (List Nat)), Blk wx gn 3 #[.int .i64 N] ∧ Blk wx gb 22 #[.slice B' q' d'] ∧ Hid (ILL wx B' q' (zss gl')) ∧ Hid (PMs N gl') ∧ Hid (gl'.length = q') ∧ 0 < q' ∧ q' ≤ 3 ∧ Hid (Below w.heap.size w wx))
  case first =>
    by_cases hq0 : q = 0
    · go_wp2_with fail
      refine (mperm_any N none 0 0 [] w3 (IL.nil_ _) (by omega)).mono ?_
      rintro e w4 ⟨a, pa, la, hid, A1, n1, c1, rfl, ho, hb4⟩
      have hpa : PM N a := ⟨pa, la⟩
      have o1 := ho.alloc (.cells #[.slice A1 n1 c1] 23)
      have BN5 := (BN2.below hb4 BN2.lt).alloc (.cells #[.slice A1 n1 c1] 23)
      have BB5 := (BB2.below hb4 BB2.lt).alloc (.cells #[.slice A1 n1 c1] 23)
      have ov : OwnV (w4.alloc (.cells #[.slice A1 n1 c1] 23)) w3.heap.size (some ⟨w4.heap.size, 0, none⟩) 1 1 [.slice A1 n1 c1] :=
        ⟨World.ownsRow_lit (base := w3.heap.size) (e := 23) (size := 1) w4 #[.slice A1 n1 c1] 1 hb4.size (by unfold maxLen; omega) (by simp), by omega⟩
      have rw5 := (RowsI.nil_ (w4.alloc (.cells #[.slice A1 n1 c1] 23)) w3.heap.size).snoc o1
      have k3 : KeepT 3 (w4.alloc (.cells #[.slice A1 n1 c1] 23)) ((w4.alloc (.cells #[.slice A1 n1 c1] 23)).setCell ⟨gb, 0, none⟩ (.slice (some ⟨w4.heap.size, 0, none⟩) 1 1)) := KeepT.set_ BB5 (by decide) 0 _
      have k23 : KeepT 23 (w4.alloc (.cells #[.slice A1 n1 c1] 23)) ((w4.alloc (.cells #[.slice A1 n1 c1] 23)).setCell ⟨gb, 0, none⟩ (.slice (some ⟨w4.heap.size, 0, none⟩) 1 1)) := KeepT.set_ BB5 (by decide) 0 _
      have HI6 : Hid (ILL ((w4.alloc (.cells #[.slice A1 n1 c1] 23)).setCell ⟨gb, 0, none⟩ (.slice (some ⟨w4.heap.size, 0, none⟩) 1 1)) (some ⟨w4.heap.size, 0, none⟩) 1 (zss [a])) := hide (ILL.of_rows (ov.keep k23) (rw5.keep k3))
      have BN6 := BN5.far (p := ⟨gb, 0, none⟩) hngb (.slice (some ⟨w4.heap.size, 0, none⟩) 1 1)
      have BB6 := BB5.set_ 0 (.slice (some ⟨w4.heap.size, 0, none⟩) 1 1)
      have hb5 : Below w.heap.size w (w4.alloc (.cells #[.slice A1 n1 c1] 23)) := (HBW.out.trans (hb4.mono HBW.out.size)).alloc (by have := HBW.out.size; have := hb4.size; omega) _
      have HB6 : Hid (Below w.heap.size w ((w4.alloc (.cells #[.slice A1 n1 c1] 23)).setCell ⟨gb, 0, none⟩ (.slice (some ⟨w4.heap.size, 0, none⟩) 1 1))) := hide (hb5.setCell (by have := HB1.out.size; show w.heap.size ≤ gb; omega) _)
      have HPA : Hid (PMs N [a]) := hide (fun g hg => by obtain rfl : g = a := by simpa using hg
                                                         exact hpa)
      have hfr : (w4.alloc (.cells #[.slice A1 n1 c1] 23)).frozen? ⟨gb, 0, none⟩ = false := BB5.frozen 0
      have hce : (w4.alloc (.cells #[.slice A1 n1 c1] 23)).cell? ⟨gb, 0, none⟩ = some (.slice B q qd) := BB5.cell 0
      clear pa la hid ho hb4 o1 BN5 ov rw5 k3 k23 hb5 hpa BB5
      go_wp2_with fail
      go_meet
      case rel => exact ⟨some ⟨w4.heap.size, 0, none⟩, 1, 1, [a], BN6, BB6, HI6, HPA, rfl, by omega, by omega, HB6⟩
    · go_wp2_with fail
      go_meet
      case rel => exact ⟨B, q, qd, gl, BN2, BB2, HI, HP, HGL, by omega, hq3, HBW⟩
  case rest =>
    clear BN2 BB2 hcn HI HP HGL hqd hq3 HBW B q qd gl
    obtain ⟨B, q, qd, gl, BN, BB, HI, HP, HGL, hq0, hq3, HBW⟩ := hcut
    have hcn : wc.cell? ⟨gn, 0, none⟩ = some (.int .i64 N) := BN.cell 0
    have hcb : wc.cell? ⟨gb, 0, none⟩ = some (.slice B q qd) := BB.cell 0
    go_wp2_with fail
    refine (word_any C q m d xs wc (HY.out.below HBW.out) hd hq0 (by omega)).mono ?_
    rintro e w5 ⟨us, U, um, ud, rfl, hus, hok, hb5⟩
    have HB5 := hide (HBW.out.trans (hb5.mono HBW.out.size))
    have BN5 := BN.below hb5 BN.lt
    have BB5 := BB.below hb5 BB.lt
    have HI5 := hide (HI.out.below hb5)
    have HU5 := hide hus.il
    have hul := hus.len
    have HUL := hide hul
    have HOK := hide hok
    have HOK2 : Hid (∀ x ∈ us, x ≠ 0 ∧ x ≤ gl.length ∧ -(gl.length : Int) ≤ x) := by rw [HGL.out]; exact hok
    have hums := hus.small
    clear hus hok hb5 BN BB HI hcn hcb HBW hul
    go_wp2_with fail
    refine (value_any gn gb N q qd um ud B U gl us w5 BN5 BB5 HI5.out HP.out (by omega) HU5.out HOK.out (by omega)).mono ?_
    rintro e w6 ⟨P, pn, pc, rfl, hp, hb6⟩
    have HB6 := hide (HB5.out.trans (hb6.mono HB5.out.size))
    have BN6 := BN5.below hb6 BN5.lt
    have BB6 := BB5.below hb6 BB5.lt
    have HI6 := hide (HI5.out.below hb6)
    have HP6 := hide hp
    have hcn : w6.cell? ⟨gn, 0, none⟩ = some (.int .i64 N) := BN6.cell 0
    have hcb : w6.cell? ⟨gb, 0, none⟩ = some (.slice B q qd) := BB6.cell 0
    have hgen := (wv_val HP.out HOK2.out us.length (Nat.le_refl _)).2
    rw [List.take_of_length_le (Nat.le_refl _)] at hgen
    have HGEN := hide hgen
    have HPP := hide (hgen.pm HP.out)
    clear hp hb6 BN5 BB5 HI5 HU5 hgen HB5
    go_wp2_with fail
    refine (gcont_ok B P N q qd pn pc gl (wv N gl us) w6 HI6.out HP6.out (by omega) (by rw [HGL.out]; omega) HP.out HPP.out).mono ?_
    rintro e w7 ⟨b, hbb, rfl, hb7⟩
    obtain rfl : b = true := hbb.2 HGEN.out
    have HB7 := hide (HB6.out.trans (hb7.mono HB6.out.size))
    have BN7 := BN6.below hb7 BN6.lt
    have BB7 := BB6.below hb7 BB6.lt
    have HI7 := hide (HI6.out.below hb7)
    have HP7 := hide (HP6.out.below hb7)
    have hcn7 : w7.cell? ⟨gn, 0, none⟩ = some (.int .i64 N) := BN7.cell 0
    have hcb7 : w7.cell? ⟨gb, 0, none⟩ = some (.slice B q qd) := BB7.cell 0
    clear hbb hb7 BN6 BB6 HI6 HP6 HB6 hcn hcb
    obtain ⟨es, hes, he5⟩ := enum_small hN6 HP.out
    have HES := hide hes
    clear hes
    go_wp2_with fail
    refine (gfac_ok B P N q qd pn pc gl (wv N gl us) es w7 HI7.out HP7.out (by omega) (by rw [HGL.out]; omega) HP.out HPP.out HES.out he5).mono ?_
    rintro e w8 ⟨hb8, h | ⟨h, -⟩⟩
    · obtain ⟨-, W, V, vn, vc, hw, rfl, hov⟩ := h
      have HB8 := hide (HB7.out.trans (hb8.mono HB7.out.size))
      have BN8 := BN7.below hb8 BN7.lt
      have BB8 := BB7.below hb8 BB7.lt
      have HI8 := hide (HI7.out.below hb8)
      have HP8 := hide (HP7.out.below hb8)
      obtain ⟨hwl, hwv, hwo⟩ := word_short HP.out HOK2.out hw
      have HWV := hide hwv
      have HWO : Hid (∀ x ∈ W, x ≠ 0 ∧ x ≤ q ∧ -(q : Int) ≤ x) := by rw [← HGL.out]; exact hwo
      have hvl := hov.len
      have HVL := hide hvl
      have hvn : vn ≤ um := by rw [← hvl, ← HUL.out]; exact hwl
      have HV8 := hide hov.il
      have hvs := hov.small
      clear hw hwl hwv hwo hvl hov hb8 BN7 BB7 HI7 HP7 HB7 hcn7 hcb7
      go_wp2_with fail
      refine (kgrouped_any w8).mono ?_
      rintro e w9 ⟨rfl, hb9⟩
      have HB9 := hide (HB8.out.trans (hb9.mono HB8.out.size))
      have BN9 := BN8.below hb9 BN8.lt
      have BB9 := BB8.below hb9 BB8.lt
      have HI9 := hide (HI8.out.below hb9)
      have HP9 := hide (HP8.out.below hb9)
      have HV9 := hide (HV8.out.below hb9)
      have hcb9 : w9.cell? ⟨gb, 0, none⟩ = some (.slice B q qd) := BB9.cell 0
      have hdv : decide (um < vn) = false := by simp; omega
      have hdv2 : decide ((um : Int) < (vn : Int)) = false := by simp; omega
      clear hb9 BN8 BB8 HI8 HP8 HV8 HB8
      go_wp2_with fail
      go_loop [74] (fun iv => ∃ i : Nat, i ≤ vn ∧ iv = .int .i64 i) (fun iv => vn - (intOf iv).toNat)
      case atStart => exact ⟨0, Nat.zero_le _, rfl⟩
      case round =>
        obtain ⟨i, hi, rfl⟩ := hrel
        by_cases hlt : i < vn
        · obtain ⟨ad, rfl, hcl⟩ := HV9.out.at_ hlt
          have hmem : W.getD i 0 ∈ W := by
            have hiw : i < W.length := by rw [HVL.out]; exact hlt
            rw [show W.getD i 0 = W[i] by simp [List.getD, List.getElem?_eq_getElem hiw]]
            exact List.getElem_mem _
          obtain ⟨hx0, hx1, hx2⟩ := HWO.out _ hmem
          generalize W.getD i 0 = x at *
          have hxb : (x == 0) = false := by simpa using hx0
          clear hmem hx0
          go_wp2
          go_round
          case rel => exact ⟨i + 1, by omega, by go_num⟩
          case measure => simp [intOf]; omega
        · go_wp2_with fail
          refine (value_any gn gb N q qd vn vc B V gl W w9 BN9 BB9 HI9.out HP.out (by omega) HV9.out HWO.out (by omega)).mono ?_
          rintro e w10 ⟨P2, pn2, pc2, rfl, hp2, hb10⟩
          have HB10 := hide (HB9.out.trans (hb10.mono HB9.out.size))
          have HP2 : Hid (IL w10 P2 pn2 (zs (wv N gl us))) := by rw [← HWV.out]; exact hp2
          have HP10 := hide (HP9.out.below hb10)
          have HEQ := hide (equal_any P2 P pn2 pn pc2 pc _ _ w10 HP2.out HP10.out)
          rw [eqB_true rfl] at HEQ
          clear hp2 hb10
          go_wp2_with fail
          refine HEQ.out.mono ?_
          rintro e w11 ⟨rfl, hb11⟩
          have hbe := HB10.out.trans (hb11.mono HB10.out.size)
          go_wp2
          go_ret
          exact ⟨rfl, hbe⟩
    · exact absurd HGEN.out h
end Go.Proofs.Ytnpdlfnhpghkmaa
