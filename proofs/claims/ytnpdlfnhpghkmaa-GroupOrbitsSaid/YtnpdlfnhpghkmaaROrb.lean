/- timblaw1.GroupOrbits. -/
import Derived.Test.YtnpdlfnhpghkmaaRErr
import Derived.Test.YtnpdlfnhpghkmaaROrd
import Derived.Maps.RangeWalk
import Derived.Deep.DeepCutAuto
namespace Go.Proofs.Ytnpdlfnhpghkmaa
open Go.RowKit Go.Maps
set_option linter.unusedVariables false
set_option linter.unusedSimpArgs false

set_option maxRecDepth 100000 in
set_option maxHeartbeats 4000000 in
theorem groupOrbits_err (A : Option Addr) (n pt : Int) (l c : Nat) (xss : List (List Int)) (w : World) (hx : ILL w A l xss) (hn : (Lit.int .i64 n).wf = true) (hf : gf n xss ≠ 0) :
    Calls Try.prog 4 #[.int .i64 n, .slice A l c, .int .i64 pt] w fun e w' => e = .returned (.bool true) ∧ Below w.heap.size w w' := by
  have H9 : Hid (Alw w 9 #[.int .i64 n, .slice A l c] (.int .i64 (gf n xss))) := alw fun w' hb => gfault_any A n l c xss w' (hx.below hb) hn
  have H11 : Hid (Alw w 11 #[] (.bool true)) := alw fun w' hb => grouped_any w'
  have H17 : Hid (Alw w 17 #[.int .i64 n, .slice A l c] (.tuple #[.slice none 0 0, .int .i64 (gf n xss)])) := alw fun w' hb => orbits_err A n l c xss w' (hx.below hb) hn hf
  have H18 : Hid (Alw w 18 #[.int .i64 n, .slice A l c, .int .i64 pt] (.tuple #[.int .i64 0, .int .i64 (gf n xss)])) := alw fun w' hb => stab_err A n pt l c xss w' (hx.below hb) hn hf
  obtain ⟨x, hx'⟩ : ∃ x, gf n xss = x := ⟨_, rfl⟩
  rw [hx'] at H9 H17 H18 hf
  have h1 : (x == 0) = false := by simpa using hf
  have h2 : (x != 0) = true := by simpa using hf
  have h3 : (x != x) = false := by simp
  have hb0 : Below w.heap.size w w := Below.refl _ _
  clear hx hn hf hx'
  go_enter Try.func4, Try.ntmps4
  go_wp2_with fail
  refine (H9.out _ hb0).mono ?_
  rintro e w1 ⟨rfl, hb1⟩
  clear hb0
  go_wp2_with fail
  refine (H11.out _ hb1).mono ?_
  rintro e w2 ⟨rfl, hb2⟩
  clear hb1
  by_cases h6 : 6 < n
  all_goals
    go_wp2_with fail
    refine (H17.out _ hb2).mono ?_
    rintro e w3 ⟨rfl, hb3⟩
    clear hb2
    go_wp2_with fail
    refine (H18.out _ hb3).mono ?_
    rintro e w4 ⟨rfl, hb4⟩
    clear hb3
    go_wp2
    go_ret
    exact ⟨rfl, hb4⟩

set_option maxRecDepth 100000 in
set_option maxHeartbeats 4000000 in
theorem groupOrbits_big (A : Option Addr) (n l c : Nat) (pt : Int) (gl : List (List Nat)) (w : World) (hx : ILL w A l (zss gl)) (hn : n ≤ 9) (h6 : 6 < n) (hl : gl.length ≤ 6) (hP : PMs n gl) :
    Calls Try.prog 4 #[.int .i64 n, .slice A l c, .int .i64 pt] w fun e w' => e = .returned (.bool true) ∧ Below w.heap.size w w' := by
  have hwf : (Lit.int .i64 (n : Int)).wf = true := by
    simp [Lit.wf, IntKind.min, IntKind.max, IntKind.signed, IntKind.bits]
    omega
  have hf : gf n (zss gl) = 0 := gf_ok hn hl hP
  have H9 : Hid (Alw w 9 #[.int .i64 n, .slice A l c] (.int .i64 0)) := alw fun w' hb => by rw [← hf]; exact gfault_any A n l c _ w' (hx.below hb) hwf
  have H11 : Hid (Alw w 11 #[] (.bool true)) := alw fun w' hb => grouped_any w'
  have hb0 : Below w.heap.size w w := Below.refl _ _
  clear hx hl hP hf hwf
  go_enter Try.func4, Try.ntmps4
  go_wp2_with fail
  refine (H9.out _ hb0).mono ?_
  rintro e w1 ⟨rfl, hb1⟩
  clear hb0
  go_wp2_with fail
  refine (H11.out _ hb1).mono ?_
  rintro e w2 ⟨rfl, hb2⟩
  clear hb1
  go_wp2_with fail
  refine (H11.out _ hb2).mono ?_
  rintro e w3 ⟨rfl, hb3⟩
  clear hb2
  go_wp2
  go_ret
  exact ⟨rfl, hb3⟩
theorem exists_orb (n : Nat) (gl : List (List Nat)) (hP : PMs n gl) {x : Nat} (hx : x < n) : ∃ os, IsOrb n gl x os := by
  classical
  refine ⟨(List.range n).filter fun y => decide (Orb n gl x y), ?_, fun y => ?_⟩
  · unfold Sorted
    exact List.Pairwise.filter _ List.pairwise_lt_range
  · rw [List.mem_filter, List.mem_range]
    constructor
    · rintro ⟨_, h⟩; exact of_decide_eq_true h
    · intro h; exact ⟨h.lt hP hx, decide_eq_true h⟩

/-- As Alw, but nothing that was there changes. -/
def AlwB (w : World) (f : FuncId) (args : Array Value) (v : Value) : Prop := ∀ w', Below w.heap.size w w' → Calls Try.prog f args w' fun e w'' => e = .returned v ∧ Below w'.heap.size w' w''
/-- What StabilizerOrder yields for a point. -/
def PtOK (n : Nat) (gl : List (List Nat)) (pt : Int) (k : Nat) (f : Int) : Prop :=
  (f = 0 ∧ ∃ x : Nat, pt = x ∧ x < n ∧ ∀ fs : List Ent, Bfs n (lts gl) fs.length 0 fs → k = fixN fs x) ∨ (f = 1 ∧ k = 0 ∧ ¬ (0 ≤ pt ∧ pt < n))
theorem pt_ok (A : Option Addr) (n l c : Nat) (pt : Int) (gl : List (List Nat)) (w : World) (hx : ILL w A l (zss gl)) (h6 : n ≤ 6) (hl : gl.length ≤ 6) (hP : PMs n gl) :
    ∃ k f, PtOK n gl pt k f ∧ k ≤ 5040 ∧ AlwB w 18 #[.int .i64 n, .slice A l c, .int .i64 pt] (.tuple #[.int .i64 (k : Nat), .int .i64 f]) := by
  by_cases hp : 0 ≤ pt ∧ pt < n
  · obtain ⟨x, rfl⟩ : ∃ x : Nat, pt = x := ⟨pt.toNat, by omega⟩
    have hxn : x < n := by omega
    obtain ⟨es, hes, he5⟩ := enum_small h6 hP
    obtain ⟨os, hos⟩ := exists_orb n gl hP hxn
    refine ⟨(es.filter fun p => decide (p.getD x 0 = x)).length, 0, .inl ⟨rfl, x, rfl, hxn, fun fs hb => fix_count (by omega) hP hb hes hxn⟩, Nat.le_trans (List.length_filter_le _ _) he5, ?_⟩
    refine fun w' hb => ?_
    exact (stabo_ok A n l c x gl w' (hx.below hb) (by omega) hl hP hxn es hes os hos).mono fun e w'' ⟨s, _, hs, he, hb2⟩ => ⟨by rw [he, hs], hb2⟩
  · exact ⟨0, 1, .inr ⟨rfl, rfl, hp⟩, by omega, fun w' hb => stab_arg A n l c pt gl w' (hx.below hb) (by omega) hl hP hp⟩

/-- The parents, in memory. -/
structure JS (w wr : World) (n : Nat) (gl : List (List Nat)) (A1 : Option Addr) (c1 gj : Nat) (j : List Nat) : Prop where
  own : OwnI wr w.heap.size A1 n c1 (zs j)
  uf : UF n gl j
  blk : Blk wr gj 42 #[.slice A1 n c1]
  below : Below w.heap.size w wr
theorem JS.to {w wr w2 : World} {n : Nat} {gl : List (List Nat)} {A1 : Option Addr} {c1 gj : Nat} {j : List Nat} (h : JS w wr n gl A1 c1 gj j) (hb : Below wr.heap.size wr w2) : JS w w2 n gl A1 c1 gj j :=
  ⟨h.own.below hb, h.uf, h.blk.below hb h.blk.lt, h.below.trans (hb.mono h.below.size)⟩
/-- The first k generators and, of the next, the first i points are joined. -/
def JD (n : Nat) (gl : List (List Nat)) (j : List Nat) (k i : Nat) : Prop := (∀ a, a < k → ∀ x, x < n → Same j x ((gl.getD a []).getD x 0)) ∧ ∀ x, x < i → Same j x ((gl.getD k []).getD x 0)

set_option maxRecDepth 100000 in
set_option maxHeartbeats 8000000 in
theorem groupOrbits_in (A : Option Addr) (n l c : Nat) (pt : Int) (gl : List (List Nat)) (w : World) (hx : ILL w A l (zss gl)) (h6 : n ≤ 6) (hl : gl.length ≤ 6) (hP : PMs n gl) :
    Calls Try.prog 4 #[.int .i64 n, .slice A l c, .int .i64 pt] w fun e w' => e = .returned (.bool true) ∧ Below w.heap.size w w' := by
  have hwf : (Lit.int .i64 (n : Int)).wf = true := by
    simp [Lit.wf, IntKind.min, IntKind.max, IntKind.signed, IntKind.bits]
    omega
  have hn : n ≤ 9 := by omega
  have hf : gf n (zss gl) = 0 := gf_ok hn hl hP
  have H9 : Hid (Alw w 9 #[.int .i64 n, .slice A l c] (.int .i64 0)) := alw fun w' hb => by rw [← hf]; exact gfault_any A n l c _ w' (hx.below hb) hwf
  have H11 : Hid (Alw w 11 #[] (.bool true)) := alw fun w' hb => grouped_any w'
  obtain ⟨k, f, hkf, hk5, h18⟩ := pt_ok A n l c pt gl w hx h6 hl hP
  have H18 := hide h18
  have HKF := hide hkf
  have HX := hide hx
  have HP := hide hP
  have hgl : gl.length = l := by have := hx.len; simpa [zss] using this
  have HGL := hide hgl
  have hl6 : l ≤ 6 := by omega
  have h01 : f = 0 ∨ f = 1 := by rcases hkf with ⟨h, _⟩ | ⟨h, _⟩; exact .inl h; exact .inr h
  have H01 := hide h01
  have hb0 : Below w.heap.size w w := Below.refl _ _
  clear hx hl hP hf hwf h18 hkf h01 hgl
  go_enter Try.func4, Try.ntmps4
  go_wp2_with fail
  refine (H9.out _ hb0).mono ?_
  rintro e w1 ⟨rfl, hb1⟩
  clear hb0
  go_wp2_with fail
  refine (H11.out _ hb1).mono ?_
  rintro e w2 ⟨rfl, hb2⟩
  clear hb1
  go_wp2_with fail
  refine (orbits_ok A n l c gl w2 (HX.out.below hb2) hn (by rw [HGL.out]; exact hl6) HP.out).mono ?_
  rintro e w3 ⟨oss, O, oq, od, hot, rfl, hol, hod, hb3'⟩
  have hb3 := hb2.trans (hb3'.mono hb2.size)
  have HOT := hide hot
  have HOL3 := hide hol
  have hoqs := hol.small
  clear hb2 hb3' hot hol
  go_wp2_with fail
  refine (H18.out _ hb3).mono ?_
  rintro e w4 ⟨rfl, hb4'⟩
  have hb4 := hb3.trans (hb4'.mono hb3.size)
  have HOL := hide (HOL3.out.below hb4')
  have hff : (f != f) = false := by simp
  clear hb3 hb4' HOL3
  go_upto_region 8 with fail
  go_cut [63] (fun v63 wx => v63 = .bool (f == 1) ∧ wx = w4)
  case first =>
    rcases HKF.out with ⟨rfl, x, rfl, hxn, -⟩ | ⟨rfl, rfl, hnp⟩
    · have e1 : decide ((x : Int) < 0) = false := by simp
      have e2 : decide (n ≤ x) = false := by simp; omega
      go_wp2_with fail
      go_meet
      case rel => exact ⟨rfl, rfl⟩
    · by_cases hneg : pt < 0
      · go_wp2_with fail
        go_meet
        case rel => exact ⟨rfl, rfl⟩
      · have hge : (n : Int) ≤ pt := by omega
        clear hnp
        go_wp2_with fail
        go_meet
        case rel => exact ⟨rfl, rfl⟩
  case rest =>
    obtain ⟨rfl, rfl⟩ := hcut
    go_upto_if 63 with fail
    go_cut [7] (fun v7 wx => v7 = .int .i64 f ∧ wx = wc)
    case first =>
      rcases H01.out with rfl | rfl
      · go_wp2_with fail
        go_meet
        case rel => exact ⟨rfl, rfl⟩
      · go_wp2_with fail
        go_meet
        case rel => exact ⟨rfl, rfl⟩
    case rest =>
      obtain ⟨rfl, rfl⟩ := hcut
      go_upto_region 10 with fail
      go_cut [83] (fun v83 wx => v83 = .bool false ∧ wx = wc)
      case first =>
        rcases HKF.out with ⟨rfl, x, rfl, hxn, -⟩ | ⟨rfl, rfl, hnp⟩
        · go_wp2_with fail
          go_meet
          case rel => exact ⟨rfl, rfl⟩
        · go_wp2_with fail
          go_meet
          case rel => exact ⟨rfl, rfl⟩
      case rest =>
        obtain ⟨rfl, rfl⟩ := hcut
        go_wp2_with fail
        refine (points_any n wc (by omega)).mono ?_
        rintro e w5 ⟨A1, n1, c1, rfl, ho, hb5⟩
        have hn1 : n1 = n := by have := ho.len; rw [zs_length] at this; simpa using this.symm
        subst hn1
        have hjs : JS wc (w5.alloc (.cells #[.slice A1 n1 c1] 42)) n1 gl A1 c1 w5.heap.size (List.range n1) :=
          ⟨ho.alloc _, UF.start _ _, Blk.new _ _ _, hb5.alloc hb5.size _⟩
        have HXC := hide (HX.out.below hb4)
        clear ho hb5
        go_wp2_with fail
        generalize hgj : w5.heap.size = gj at *
        generalize w5.alloc (.cells #[.slice A1 n1 c1] 42) = w6 at *
        clear hgj
        have HJD0 : Hid (JD n1 gl (List.range n1) 0 0) := hide ⟨fun a h => by omega, fun x h => by omega⟩
        go_loopw [90] (fun kv wr => ∃ (a : Nat) (j : List Nat), kv = .int .i64 a ∧ a ≤ l ∧ JS wc wr n1 gl A1 c1 gj j ∧ Hid (JD n1 gl j a 0)) (fun kv _ => l - (intOf kv).toNat)
        case atStart => exact ⟨0, _, rfl, Nat.zero_le _, hjs, HJD0.out⟩
        case round =>
          clear hjs HJD0
          obtain ⟨a, j, rfl, hal, hjs, HJD⟩ := hrel
          by_cases hlt : a < l
          · have hag : a < gl.length := by rw [HGL.out]; exact hlt
            obtain ⟨ad, C1, m1, d1, rfl, hcl, hil⟩ := HXC.out.at2 hjs.below hlt
            rw [zss_getD hag] at hil
            have HPG := hide (HP.out _ (getD_mem'' hag))
            have HGM := hide (getD_mem'' hag)
            obtain ⟨g, hg⟩ : ∃ g, gl.getD a [] = g := ⟨_, rfl⟩
            have HG := hide hg
            rw [hg] at hil HPG HGM
            have hm1 : m1 = n1 := by have := hil.len; rw [zs_length, HPG.out.2] at this; exact this.symm
            subst hm1
            have HILG := hide hil
            have HJD1 := hide HJD.out
            clear hil hg HJD
            go_wp2_with fail
            rename World => wo
            go_loopw [96] (fun iv wr => ∃ (i : Nat) (j : List Nat), iv = .int .i64 i ∧ i ≤ m1 ∧ JS wc wr m1 gl A1 c1 gj j ∧ Hid (JD m1 gl j a i)) (fun iv _ => m1 - (intOf iv).toNat)
            case atStart => exact ⟨0, j, rfl, Nat.zero_le _, hjs, HJD1.out⟩
            case round =>
              clear hjs HJD1
              obtain ⟨i, j, rfl, him, hjs, HJD⟩ := hrel
              by_cases hi : i < m1
              · obtain ⟨gA, rfl, hgA1, hgA2⟩ := hjs.own.form (by omega)
                obtain ⟨ad2, rfl, hcy⟩ := (HILG.out.below hjs.below).at_ hi
                rw [zs_getD] at hcy
                have hyn := HPG.out.lt hi
                have HY : Hid (g.getD i 0 = g.getD i 0) := rfl
                have horb : Orb m1 gl i (g.getD i 0) := Orb.gen HP.out hi HGM.out (Orb.refl hi)
                obtain ⟨kx, rx, hrx, hrxl⟩ := hjs.uf.tot i hi
                obtain ⟨ky, ry, hry, hryl⟩ := hjs.uf.tot _ hyn
                obtain ⟨u1, u2, u3⟩ := hjs.uf.join HP.out hi hyn horb hrx hry
                have HJ2 : Hid (JD m1 gl (j.set rx ry) a (i + 1)) := hide ⟨fun b hb x hx => u3 _ _ (HJD.out.1 b hb x hx), fun x hx => by
                  by_cases e : x = i
                  · rw [e, HG.out]; exact u2
                  · exact u3 _ _ (HJD.out.2 x (by omega))⟩
                obtain ⟨y, hy⟩ : ∃ y, g.getD i 0 = y := ⟨_, rfl⟩
                rw [hy] at hcy hyn hry
                have HCJ := hide (join_any gA m1 m1 c1 wc.heap.size gl j i y kx ky rx ry _ hjs.own hjs.uf hi hyn hrx hry)
                have hcj := hjs.blk.cell 0
                have own2 := hjs.own.set_ rx (ry : Int)
                rw [show (zs j).set rx (ry : Int) = zs (j.set rx ry) by simp [zs, List.map_set]] at own2
                have hne : gj ≠ gA := by
                  intro e
                  exact hjs.own.ne_ hjs.blk (by decide) (by rw [e]; rfl)
                have blk2 := hjs.blk.far (p := ⟨gA, rx, none⟩) hne (.int .i64 ry)
                have bel2 := hjs.below.setCell (p := ⟨gA, rx, none⟩) hgA1 (.int .i64 ry)
                have hjs2 : JS wc _ m1 gl (some ⟨gA, 0, none⟩) c1 gj (j.set rx ry) := ⟨own2, u1, blk2, bel2⟩
                clear horb u1 u2 u3 hy HY own2 blk2 bel2 hjs HJD hne
                go_wp2_with fail
                refine HCJ.out.mono ?_
                rintro e w7 ⟨rfl, rfl⟩
                go_wp2
                go_roundw
                case rel => exact ⟨i + 1, _, by go_num, by omega, hjs2, HJ2.out⟩
                case measure => simp [intOf]; omega
              · have him' : i = m1 := by omega
                have HJ2 : Hid (JD m1 gl j (a + 1) 0) := hide ⟨fun b hb x hx => by
                  by_cases e : b = a
                  · rw [e]; exact HJD.out.2 x (by omega)
                  · exact HJD.out.1 b (by omega) x hx, fun x hx => by omega⟩
                clear him'
                go_wp2
                go_roundw
                case rel => exact ⟨a + 1, j, by go_num, by omega, hjs, HJ2.out⟩
                case measure => simp [intOf]; omega
          · have HALL : Hid (∀ g ∈ gl, ∀ x, x < n1 → Same j x (g.getD x 0)) := hide (fun g hg x hx => by
              obtain ⟨b, hb, rfl⟩ := List.mem_iff_getElem.1 hg
              have := HJD.out.1 b (by have := HGL.out; omega) x hx
              rwa [show gl.getD b [] = gl[b] by simp [List.getD, List.getElem?_eq_getElem hb]] at this)
            have HJS := hide hjs
            have hb8 := hb4.trans (hjs.below.mono hb4.size)
            have HOL8 := hide (HOL.out.below hjs.below)
            have hw0 : WR wr wr.heap.size none 0 0 [] [] := WR.nil_ _ _
            have HW0 := hide (WantSt.start (n := n1) (gl := gl))
            have hbr : Below wr.heap.size wr wr := Below.refl _ _
            clear hjs HJD hb4 HOL
            go_wp2_with fail
            rename World => w8
            obtain ⟨i1, hi1, hz0, hz1, hz2⟩ := info_parts info23
            have HI1 := hide hi1
            have HZ0 := hide hz0
            have HZ1 := hide hz1
            have HZ2 := hide hz2
            obtain ⟨i0, hi0, hy0, hy1, hy2⟩ := info_parts int_info
            have HI0 := hide hi0
            have HY0 := hide hy0
            have HY1 := hide hy1
            have HY2 := hide hy2
            clear hi1 hz0 hz1 hz2 hi0 hy0 hy1 hy2
            go_loopw [17, 108] (fun ov iv wr => ∃ (i q d : Nat) (Q : Option Addr) (vs : List Value) (want : List (List Nat)), ov = .slice Q q d ∧ iv = .int .i64 i ∧ i ≤ n1 ∧ q ≤ i ∧ WR wr w8.heap.size Q q d vs want ∧ Hid (WantSt n1 gl i want) ∧ Below w8.heap.size w8 wr) (fun _ iv _ => n1 - (intOf iv).toNat)
            case atStart => exact ⟨0, 0, 0, none, [], [], rfl, rfl, Nat.zero_le _, Nat.le_refl _, hw0, HW0.out, hbr⟩
            case round =>
              clear hw0 HW0 hbr
              obtain ⟨i, q, d, Q, vs, want, rfl, rfl, hin, hqi, hwr, HW, hbr⟩ := hrel
              by_cases hi : i < n1
              · have ha : Below wr.heap.size wr (wr.alloc (.cells #[.int .i64 i] 3)) := (Below.refl _ _).alloc (Nat.le_refl _) _
                have hwr1 := hwr.to ha
                have hbr1 := hbr.trans (ha.mono hbr.size)
                have hj1 := HJS.out.to hbr1
                have BI1 : Blk (wr.alloc (.cells #[.int .i64 i] 3)) wr.heap.size 3 #[.int .i64 i] := Blk.new _ _ _
                have HIX := hide (index_func_any gj wr.heap.size n1 n1 c1 q d i A1 Q gl want j _ hj1.blk BI1 hj1.own.il hj1.uf hwr1.ill (fun o ho => by obtain ⟨a1, _, a3, _⟩ := HW.out.each o ho; exact ⟨a1, by omega⟩) hi)
                have hgi8 : w8.heap.size ≤ wr.heap.size := hbr.size
                have HLT : Hid (∀ (p : Nat) (v : Value) (g' : Nat), vs[p]? = some v → v.ownBlock = some g' → g' ≠ wr.heap.size) := hide (fun p v g' hv hg' e => by
                  have hpl := (List.getElem?_eq_some_iff.1 hv).1
                  obtain ⟨R, m, cc, hv2, ho2⟩ := hwr.row (p := p) (by rw [← hwr.own.len]; exact hpl)
                  rw [hv] at hv2
                  injection hv2 with hv2
                  rw [hv2] at hg'
                  have := (ho2.lt g' hg').2
                  omega)
                clear ha hwr hbr hj1
                go_wp2_with fail
                generalize hgi : wr.heap.size = gi at *
                clear hgi
                generalize wr.alloc (.cells #[.int .i64 i] 3) = w9 at *
                refine HIX.out.mono ?_
                rintro e w10 ⟨k2, rfl, ⟨rfl, hno⟩ | ⟨b, hb, hsame, rfl⟩⟩
                · have hkd : Below w9.heap.size w9 (w9.drewN k2) := below_drewN (Below.refl _ _) k2
                  have hwr2 := hwr1.to hkd
                  have hbr2 := hbr1.trans (hkd.mono hbr1.size)
                  have BI2 := BI1.drewN k2
                  have HNO : Hid (∀ o ∈ want, ¬ Orb n1 gl (hd o) i) := hide (fun o ho h => hno o ho (HJS.out.uf.same_of_orb HP.out HALL.out (by have := (HW.out.each o ho).2.2.1; omega) h))
                  have HWN := hide (HW.out.new HP.out hi HNO.out)
                  have hci : (w9.drewN k2).cell? ⟨gi, 0, none⟩ = some (.int .i64 i) := BI2.cell 0
                  clear hno hwr1 hbr1 BI1 hkd HIX
                  generalize w9.drewN k2 = w11 at *
                  have own4 := (hwr2.own.alloc (.cells #[.int .i64 i] 3)).alloc (.cells #[.slice (some ⟨w11.heap.size, 0, none⟩) 1 1] 23)
                  have hs11 := hbr2.size
                  have HWR2 := hide hwr2
                  have HBR2 := hide hbr2
                  clear hwr2 hbr2
                  go_wp2_with (at_builtin; refine wpList_append_val _ rfl _ _ 22 rfl w8.heap.size i1 Try.underlying22 HI1.out HZ0.out HZ1.out HZ2.out Q q d vs rfl own4 ⟨w11.heap.size + 1, 0, none⟩ 1 (.slice (some ⟨w11.heap.size, 0, none⟩) 1 1) rfl (by have := (Blk.new (w11.alloc (.cells #[.int .i64 i] 3)) 23 #[.slice (some ⟨w11.heap.size, 0, none⟩) 1 1]).cell 0; rw [World.size_alloc] at this; exact this) rfl (by omega) (by rw [World.size_alloc, World.size_alloc]; omega) ?_; intro Q' d' w12 hap)
                  have hwr3 := HWR2.out.add hs11 i hap
                  have hb12 : Below w8.heap.size w8 w12 := ((HBR2.out.alloc hs11 _).alloc (by rw [World.size_alloc]; omega) _).grown hap.grown (by rw [World.size_alloc, World.size_alloc]; omega) (fun b hb => (HWR2.out.own.lt b (by rw [← hb]; exact ownBlock_len Q q (q + 1) d d)).1)
                  clear hap own4
                  go_roundw
                  case rel => exact ⟨i + 1, q + 1, d', Q', _, _, rfl, by go_num, by omega, by omega, hwr3, HWN.out, hb12⟩
                  case measure => simp [intOf]; omega
                · have hkd : Below w9.heap.size w9 (w9.drewN k2) := below_drewN (Below.refl _ _) k2
                  have hwr2 := hwr1.to hkd
                  have hbr2 := hbr1.trans (hkd.mono hbr1.size)
                  have BI2 := BI1.drewN k2
                  have hbq : b < q := by rw [← hwr1.len]; exact hb
                  have hmem := getD_mem'' hb
                  have hhd := (HW.out.each _ hmem).2.2.1
                  have horb := HJS.out.uf.sound _ _ (by omega) hi hsame
                  have HWN := hide (HW.out.old HP.out hi hb horb)
                  have hci : (w9.drewN k2).cell? ⟨gi, 0, none⟩ = some (.int .i64 i) := BI2.cell 0
                  clear hsame hwr1 hbr1 BI1 hkd HIX hmem horb
                  generalize w9.drewN k2 = w11 at *
                  have hs11 := hbr2.size
                  obtain ⟨R, m, cc, hvb, hob⟩ := hwr2.row hbq
                  have hm6 : m ≤ 1000 := by
                    have h1 := hob.len
                    rw [zs_length] at h1
                    have h2 := nodup_length_le n1 (want.getD b []) (List.Pairwise.imp (fun h => Nat.ne_of_lt h) (HW.out.each _ (getD_mem'' hb)).2.1) (fun y hy => by have := (((HW.out.each _ (getD_mem'' hb)).2.2.2 y).1 hy).1; omega)
                    omega
                  obtain ⟨gQ, rfl, hcQ⟩ := hwr2.own.cellAt hbq
                  rw [hvb] at hcQ
                  have HWR2 := hide hwr2
                  have HBR2 := hide hbr2
                  have HVB := hide hvb
                  have HOB := hide hob
                  have HBI2 := hide BI2
                  clear hwr2 hbr2 hvb hob BI2
                  go_wp2_with fail
                  refine wp_region_T (S := fun w' => w'.cell? ⟨gQ, b, none⟩ = some (.slice R m cc) ∧ w'.cell? ⟨gi, 0, none⟩ = some (.int .i64 i)) 10 (by kernel_rfl) ⟨hcQ, hci⟩ (fun hS => ?_)
                  refine wpT_tk 0 (v := .slice (some ⟨gQ, 0, none⟩) q d) rfl (by kernel_rfl) (by kernel_rfl) (by kernel_rfl) (by kernel_rfl) (yi rfl fun w' hw' => gives_move (.inl rfl) rfl) hS ?_
                  go_frame
                  refine wpT_tk 1 (v := .int .i64 b) rfl (by kernel_rfl) (by kernel_rfl) (by kernel_rfl) (by kernel_rfl) (yi rfl fun w' hw' => gives_move (.inl rfl) rfl) hS ?_
                  go_frame
                  refine wpT_tk 2 (v := .slice (some ⟨gQ, 0, none⟩) q d) rfl (by kernel_rfl) (by kernel_rfl) (by kernel_rfl) (by kernel_rfl) (yi rfl fun w' hw' => gives_move (.inl rfl) rfl) hS ?_
                  go_frame
                  refine wpT_tk 3 (v := .int .i64 b) rfl (by kernel_rfl) (by kernel_rfl) (by kernel_rfl) (by kernel_rfl) (yi rfl fun w' hw' => gives_move (.inl rfl) rfl) hS ?_
                  go_frame
                  refine wpT_tk 4 (v := .pointer (some ⟨gQ, b, none⟩)) rfl (by kernel_rfl) (by kernel_rfl) (by kernel_rfl) (by kernel_rfl) (yi rfl fun w' hw' => gives_index22 rfl rfl rfl hbq) hS ?_
                  go_frame
                  refine wpT_tk 5 (v := .slice R m cc) rfl (by kernel_rfl) (by kernel_rfl) (by kernel_rfl) (by kernel_rfl) (yi rfl fun w' hw' => gives_load1 rfl (agg23 _) rfl hw'.1) hS ?_
                  go_frame
                  refine wpT_tk 6 (v := .int .i64 i) rfl (by kernel_rfl) (by kernel_rfl) (by kernel_rfl) (by kernel_rfl) (yi rfl fun w' hw' => gives_load1 rfl (agg3 _) rfl hw'.2) hS ?_
                  go_frame
                  obtain ⟨curQ, BQ⟩ : ∃ cur, Blk w11 gQ 23 cur := by
                    rcases HWR2.out.own.own.2 with ⟨e, _⟩ | ⟨g, cap, cur, e, _, hh, _⟩
                    · cases e
                    · simp only [Value.slice.injEq, Option.some.injEq, Addr.mk.injEq, and_true, true_and] at e
                      obtain ⟨rfl, _⟩ := e
                      exact ⟨cur, hh⟩
                  have hgQ := HWR2.out.own.lt gQ rfl
                  have BQ1 := (Blk.drewN BQ 0).alloc (.cells #[.int .i64 i] 3)
                  have BQ2 : Blk (w11.drew.alloc (.cells #[.int .i64 i] 3)) gQ 23 curQ := Blk.alloc (w := w11.drew) BQ _
                  have BI3 : Blk (w11.drew.alloc (.cells #[.int .i64 i] 3)) gi 3 #[.int .i64 i] := Blk.alloc (w := w11.drew) HBI2.out _
                  have hcQ2 : curQ[b]? = some (.slice R m cc) := by rw [← BQ.cell b]; exact hcQ
                  refine wpT_1 7 rfl (by kernel_rfl) ?_
                  refine wp_buildSlice_at i0 (.int .i64 0) 1 [(0, .int .i64 i)] rfl Try.underlying23 HI0.out HY0.out HY1.out (by omega) (by omega) rfl (fill3 i) ?_
                  refine ⟨fun _ => ⟨by rw [BQ2.cell b]; exact hcQ2, BI3.cell 0⟩, ?_⟩
                  go_frame
                  refine wpT_1 8 rfl (by kernel_rfl) ?_
                  refine wp_append_int _ (.tmp 126) (.tmp 128) 23 rfl w8.heap.size i0 Try.underlying23 HI0.out HY0.out HY1.out HY2.out R m cc (zs (want.getD b [])) rfl (HOB.out.drew.alloc _) (some ⟨w11.drew.heap.size, 0, none⟩) 1 1 [(i : Int)] rfl (IL.lit w11.drew [(i : Int)] (by simp) rfl rfl) (by omega) (by rw [World.size_alloc]; show w8.heap.size ≤ w11.heap.size + 1; omega) ?_
                  intro R' c' w12 hap
                  have hrow : (Value.slice R (m + 1) cc).ownBlock = (Value.slice R m cc).ownBlock := ownBlock_len R (m + 1) m cc cc
                  have BQ3 := BQ2.grown hap.grown (by rw [hrow]; exact fun e => HOB.out.ne_ BQ (by decide) e)
                  have BI4 := BI3.grown hap.grown (by rw [hrow]; exact fun e => HLT.out b _ gi HVB.out e.symm rfl)
                  have hcQ3 : w12.cell? ⟨gQ, b, none⟩ = some (.slice R m cc) := by rw [BQ3.cell b]; exact hcQ2
                  refine ⟨fun _ => ⟨hcQ3, BI4.cell 0⟩, ?_⟩
                  go_frame
                  refine wpT_tk 9 (v := .pointer (some ⟨gQ, b, none⟩)) rfl (by kernel_rfl) (by kernel_rfl) (by kernel_rfl) (by kernel_rfl) (yi rfl fun w' hw' => gives_index22 rfl rfl rfl hbq) ⟨hcQ3, BI4.cell 0⟩ ?_
                  go_frame
                  refine wpT_1 10 rfl (by kernel_rfl) ?_
                  refine wp_store1 rfl (agg23 _) (size23' _) rfl rfl hcQ3 (BQ3.frozen b) ?_
                  refine ⟨fun h => absurd rfl h, ?_⟩
                  go_frame
                  refine wpT_done (by kernel_rfl) (noPanic_mk ?_) _
                  have hdr : Below w11.heap.size w11 w11.drew := (Below.refl _ _).drew
                  have hwr3 := (HWR2.out.to hdr).put (i := i) hs11 hbq HVB.out HOB.out.drew hap
                  have hb13 : Below w8.heap.size w8 (w12.setCell ⟨gQ, b, none⟩ (.slice R' (m + 1) c')) :=
                    (((HBR2.out.trans (hdr.mono hs11)).alloc (by show w8.heap.size ≤ w11.heap.size; exact hs11) _).grown hap.grown (by rw [World.size_alloc]; show w8.heap.size ≤ w11.heap.size + 1; omega) (fun b' hb' => (HOB.out.lt b' (by rw [← hrow]; exact hb')).1)).setCell (p := ⟨gQ, b, none⟩) hgQ.1 _
                  clear hS hap BQ BQ1 BQ2 BQ3 BI3 BI4 hcQ hcQ2 hcQ3 hci hdr
                  go_wp2
                  go_roundw
                  case rel => exact ⟨i + 1, q, d, _, _, _, rfl, by go_num, by omega, by omega, hwr3, HWN.out, hb13⟩
                  case measure => simp [intOf]; omega
              · have hie : i = n1 := by omega
                have HWD : Hid (want = oss) := hide (WantSt.done (by have := HW.out; rwa [hie] at this) HOT.out HP.out)
                have HLI := hide (lists_same O Q oq q od d (zss oss) wr (HOL8.out.below hbr) (by rw [← HWD.out]; exact hwr.ill))
                have hb9 := hb8.trans (hbr.mono hb8.size)
                clear hwr HW hie hbr
                go_wp2_with fail
                refine HLI.out.mono ?_
                rintro e w13 ⟨rfl, hb13'⟩
                have hb13 := hb9.trans (hb13'.mono hb9.size)
                clear hb9 hb13' HLI
                rcases HKF.out with ⟨hf0, x, hpx, hxn, hkx⟩ | ⟨hf1, hk0, -⟩
                · subst hf0
                  subst hpx
                  have HKX := hide hkx
                  obtain ⟨ys, hys, hy5⟩ := gen_small h6 HP.out
                  have HYS := hide hys
                  clear hkx hys
                  go_wp2_with fail
                  refine (group_any A n1 l c gl ys w13 (HX.out.below hb13) h6 (by rw [HGL.out]; exact hl6) HP.out HYS.out hy5).mono ?_
                  rintro e w14 ⟨b, fs, rs, rfl, hbf, hgs⟩
                  have hb14 := hb13.trans (hgs.below.mono hb13.size)
                  have HKK : Hid (k = fixN fs x) := hide (HKX.out fs hbf)
                  have HPM := hide (hbf.pm (lts_pm HP.out))
                  have H99 : Hid (∀ e ∈ fs, e.1.length ≤ 9) := hide (fun e he => by rw [(HPM.out e he).2]; exact hn)
                  have HINJ : Hid (∀ i j, i < fs.length → j < fs.length → keyR (entAt fs i).1 = keyR (entAt fs j).1 → i = j) := hide (fun i j hi hj h => by
                    have h1 := rankN_inj (HPM.out _ (entAt_mem hi)) (HPM.out _ (entAt_mem hj)) (by unfold keyR at h; injection h with _ h; exact_mod_cast h)
                    have h2 := hbf.nd
                    have e1 : (fs.map (·.1))[i]? = some (entAt fs i).1 := by simp [entAt, List.getD, List.getElem?_map, List.getElem?_eq_getElem hi]
                    have e2 : (fs.map (·.1))[j]? = some (entAt fs j).1 := by simp [entAt, List.getD, List.getElem?_map, List.getElem?_eq_getElem hj]
                    exact (List.getElem?_inj (by simp; omega) h2).1 (by rw [e1, e2, h1]))
                  obtain ⟨D, hD, hT, hsz, hfk⟩ := hgs.dict.own
                  have HRL0 := hide (RL.start (x := x) H99.out hgs.len HINJ.out hfk)
                  have HFK := hide hfk
                  have HREC := hide hgs.recs
                  have hfl : fs.length ≤ 5040 := Nat.le_trans (hbf.le HP.out HYS.out) hy5
                  clear hT hsz hfk hgs hbf
                  go_wp2_with (refine wpList_range_own _ rfl _ 32 rfl 3 35 key3 Try.underlying32 HR b fs.length D rfl hD ?_; intro w15 hrg hg15 hs15)
                  go_frame
                  obtain ⟨r, hr⟩ : ∃ r, w14.heap.size = r := ⟨_, rfl⟩
                  have HR14 := hide hr
                  have hbw15 : Below w14.heap.size w14 w15 := (Below.refl _ _).grown hg15 (Nat.le_refl _) (fun j hj => by cases hj)
                  rw [hr] at hrg ⊢
                  have HHB := hide hb14
                  clear hr hg15 hs15 hD hb13 hb14
                  go_loopw [20] (fun mv wr => ∃ (left : Lit → Bool) (cnt t : Nat), mv = .int .i64 t ∧ wr.ranges Try.prog 3 HR b r fs.length D left cnt ∧ Hid (RL fs rs x left t) ∧ Below w14.heap.size w14 wr) (fun _ wr => wr.rangeLeft b r)
                  case atStart => exact ⟨_, _, 0, rfl, hrg, HRL0.out, hbw15⟩
                  case round =>
                    clear hrg HRL0 hbw15
                    obtain ⟨left, cnt, t, rfl, hrg, HRL, hbw⟩ := hrel
                    have htl : t ≤ 5040 := by rw [HRL.out.cnt]; exact Nat.le_trans List.countP_le_length hfl
                    have hor := hrg.left_eq
                    have HOR := hide hor
                    have HBW := hide hbw
                    clear hor hbw
                    go_wp2_with (refine wpList_next_ranges _ rfl _ rfl 3 key3 HR (fun v : Value => v) (fun v : Value => v) (fun key kl _ => ⟨key, rfl⟩) (fun v y _ => ⟨v, rfl⟩) b r fs.length D left cnt rfl hrg ?_ ?_)
                    · intro hc0 hl0
                      have htk : t = k := by rw [HRL.out.done hl0, ← HKK.out]
                      subst htk
                      have hkk : ((t : Int) == (t : Int)) = true := by simp
                      have hbe := HHB.out.trans (HBW.out.mono HHB.out.size)
                      clear hl0 hrg
                      go_wp2
                      go_ret
                      exact ⟨rfl, hbe⟩
                    · intro key val kl a1 b1 w16 cnt' hkey hl hHR hat hrg' hlt' hgr hsz hen
                      obtain ⟨j2, hj2, hkj, hgm⟩ := HRL.out.ent key kl hkey hl
                      have hfk2 := HFK.out key kl hkey
                      rw [hgm] at hfk2
                      have ha1 : a1 = .held (.agg (rs.getD j2 #[])) := (hat (.held undef)).symm.trans (hfk2.2 _)
                      have hval : val = .agg (rs.getD j2 #[]) := by
                        have := HR_inv hHR
                        rw [ha1] at this
                        injection this with this
                        exact this.symm
                      subst hval
                      have HST := hide (HRL.out.step H99.out HINJ.out hkey hj2 hkj hl)
                      obtain ⟨P, pn, pc, Q2, qn, qc, hr2, ho1, ho2⟩ := HREC.out j2 hj2
                      have hpn : pn = n1 := by have := ho1.len; rw [zs_length, (HPM.out _ (entAt_mem hj2)).2] at this; exact this.symm
                      subst hpn
                      have hbw16 : Below w14.heap.size w14 w16 := HBW.out.grown hgr HBW.out.size (fun j hj => by injection hj with hj; rw [← hj, ← HR14.out]; exact Nat.le_refl _)
                      have hbw17 := hbw16.alloc hbw16.size (.cells #[.slice P pn pc, .slice Q2 qn qc] 35)
                      obtain ⟨ad, rfl, hcx⟩ := (ho1.il.below hbw17).at_ (show x < pn from hxn)
                      rw [zs_getD] at hcx
                      rw [hr2] at hen ⊢
                      have hc0 : (w16.alloc (.cells #[.slice (some ad) pn pc, .slice Q2 qn qc] 35)).cell? ⟨w16.heap.size, 0, none⟩ = some (.slice (some ad) pn pc) := (Blk.new w16 35 _).cell 0
                      have hrg2 := hrg'.alloc (.cells #[.slice (some ad) pn pc, .slice Q2 qn qc] 35)
                      have HRG2 := hide hrg2
                      have HMM : Hid ((w16.alloc (.cells #[.slice (some ad) pn pc, .slice Q2 qn qc] 35)).rangeLeft b r < wr.rangeLeft b r) := hide (by rw [hrg2.left_eq, HOR.out]; exact hlt')
                      have HB17 := hide hbw17
                      obtain ⟨v, hv⟩ : ∃ v, (entAt fs j2).1.getD x 0 = v := ⟨_, rfl⟩
                      rw [hv] at hcx HST
                      clear hkey hl hHR hat hrg' hgr hsz hkj hgm hfk2 ha1 hr2 ho1 ho2 hbw16 hbw17 hrg2 hv hrg
                      by_cases hvx : v = x
                      · have hvb : ((v : Int) == (x : Int)) = true := by simp [hvx]
                        rw [if_pos hvx] at HST
                        clear hvx
                        go_wp2_with (first
                          | ((with_reducible show wpList _ _ _ (Oper.mk _ (.store 35 _ _) _ _ _ _ :: _) _ _); refine wpList_store_row rfl 35 _ _ rfl _ #[.slice (some ad) pn pc, .slice Q2 qn qc] rfl rfl 35 #[.slice none 0 0, .slice none 0 0] (Blk.new _ _ _) (size35' _ rfl) rfl (rec_all ⟨_, _, _, rfl⟩ ⟨_, _, _, rfl⟩) ?_; rw [World.setRow_alloc_new])
                          | ((with_reducible show wpList _ _ _ (Oper.mk _ (.fieldAddr 35 _ 0) _ _ _ _ :: _) _ _); refine wpList_gives rfl (v := .pointer (some ⟨w16.heap.size, 0, none⟩)) (addr35 (by omega) rfl rfl) ?_))
                        go_roundw
                        case rel => exact ⟨_, cnt', t + 1, by go_num, HRG2.out, HST.out, HB17.out⟩
                        case measure => exact HMM.out
                      · have hvb : ((v : Int) == (x : Int)) = false := by simp; omega
                        rw [if_neg hvx] at HST
                        clear hvx
                        go_wp2_with (first
                          | ((with_reducible show wpList _ _ _ (Oper.mk _ (.store 35 _ _) _ _ _ _ :: _) _ _); refine wpList_store_row rfl 35 _ _ rfl _ #[.slice (some ad) pn pc, .slice Q2 qn qc] rfl rfl 35 #[.slice none 0 0, .slice none 0 0] (Blk.new _ _ _) (size35' _ rfl) rfl (rec_all ⟨_, _, _, rfl⟩ ⟨_, _, _, rfl⟩) ?_; rw [World.setRow_alloc_new])
                          | ((with_reducible show wpList _ _ _ (Oper.mk _ (.fieldAddr 35 _ 0) _ _ _ _ :: _) _ _); refine wpList_gives rfl (v := .pointer (some ⟨w16.heap.size, 0, none⟩)) (addr35 (by omega) rfl rfl) ?_))
                        go_roundw
                        case rel => exact ⟨_, cnt', t, rfl, HRG2.out, HST.out, HB17.out⟩
                        case measure => exact HMM.out
                · subst hf1
                  subst hk0
                  go_wp2
                  go_ret
                  exact ⟨rfl, hb13⟩

theorem groupOrbits_any (A : Option Addr) (n pt : Int) (l c : Nat) (xss : List (List Int)) (w : World) (hx : ILL w A l xss) (hn : (Lit.int .i64 n).wf = true) :
    Calls Try.prog 4 #[.int .i64 n, .slice A l c, .int .i64 pt] w fun e w' => e = .returned (.bool true) ∧ Below w.heap.size w w' := by
  by_cases hf : gf n xss = 0
  · obtain ⟨k, gl, rfl, hk, rfl, hl, hP⟩ := gf_zero hf
    by_cases h6 : k ≤ 6
    · exact groupOrbits_in A k l c pt gl w hx h6 hl hP
    · exact groupOrbits_big A k l c pt gl w hx hk (by omega) hl hP
  · exact groupOrbits_err A n pt l c xss w hx hn hf
end Go.Proofs.Ytnpdlfnhpghkmaa
