/- permgroup: contains, checkWith, Contains. -/
import Derived.Test.YtnpdlfnhpghkmaaExt
import Derived.Test.YtnpdlfnhpghkmaaLagr
namespace Go.Proofs.Ytnpdlfnhpghkmaa
open Go.RowKit Go.Maps

theorem strip_mem {L : Lv} (hL : LvOK L) {p : List Nat} (hp : PM 9 p) : (stripG L 9 0 p).1 = idE ↔ p ∈ enumS L 9 := by
  rw [mem_enumS hL 9 (Nat.le_refl _)]
  constructor
  · intro h
    exact ⟨hp, hL.strip_fst 9 0 p rfl hp (fun j hj => by omega) h⟩
  · rintro ⟨_, h⟩
    have h' : stripG L 9 0 p = (idE, 9) := h
    rw [h']

set_option maxRecDepth 100000 in
set_option maxHeartbeats 4000000 in
theorem containsC_any (c : Nat → Nat) (L : Lv) (p : List Nat) (w : World) (hL : LvOK L) (hp : PM 9 p) (hc : ChM w c L) :
    Calls Try.prog 40 #[.agg (chA c), .agg (elA p)] w fun e w' => ∃ b, (b = true ↔ p ∈ enumS L 9) ∧ e = .returned (.bool b) ∧ Below w.heap.size w w' := by
  have HF := hide (hL.strip_fix 9 0 p rfl hp (fun j hj => by omega))
  have HM := hide (strip_mem hL hp)
  have HS := hide (strip_any c L p ((w.alloc (.cells (chA c) 64)).alloc (.cells (elA p) 69)) hL hp ((hc.below ((Below.refl _ _).alloc (Nat.le_refl _) _)).below ((Below.refl _ _).alloc (Nat.le_refl _) _)))
  have HCH := hide ((Blk.new w 64 (chA c)).alloc (.cells (elA p) 69))
  have HPB := hide (Blk.new (w.alloc (.cells (chA c) 64)) 69 (elA p))
  obtain ⟨⟨r, lv⟩, hr⟩ : ∃ z, stripG L 9 0 p = z := ⟨_, rfl⟩
  rw [hr] at HF HS HM
  clear hL hp hc hr
  go_enter Try.func40, Try.ntmps40
  go_wp2_with (first | ((with_reducible show wpList _ _ _ (Oper.mk _ (.load 64 _) _ _ _ _ :: _) _ _); refine wpList_load_row rfl 64 _ rfl _ rfl 64 (chA c) (0, 0) _ HCH.out Try.underlying64 rfl (size64 c) ?_) | ((with_reducible show wpList _ _ _ (Oper.mk _ (.load 69 _) _ _ _ _ :: _) _ _); refine wpList_load_el rfl _ rfl _ _ rfl (by have := HPB.out; rw [World.size_alloc] at this; exact this) ?_))
  refine HS.out.mono ?_
  rintro e w1 ⟨rfl, hb1⟩
  have hB1 : Below w.heap.size w w1 := (((Below.refl _ _).alloc (Nat.le_refl _) _).alloc (by simp) _).trans (hb1.mono (by simp; omega))
  clear hb1
  have BZ : Blk (w1.alloc (Obj.cells (elA zero9) 69)) w1.heap.size 69 (elA zero9) := Blk.new _ _ _
  go_wp2_with ((with_reducible show wpList _ _ _ (Oper.mk _ (.store 69 _ _) _ _ _ _ :: _) _ _); refine wpList_store_el rfl _ _ rfl _ _ _ rfl rfl BZ ?_; rw [World.setRow_alloc_new])
  have hB2 : Below w.heap.size w (w1.alloc (Obj.cells (elA r) 69)) := hB1.alloc hB1.size _
  have BR : Blk (w1.alloc (Obj.cells (elA r) 69)) w1.heap.size 69 (elA r) := Blk.new _ _ _
  generalize hN : w1.heap.size = g4 at *
  clear BZ hN hB1
  generalize w1.alloc (Obj.cells (elA r) 69) = w2 at *
  refine wp_region_noPanic ?_
  refine wp_region_held_drew (S := fun w' => Blk w' g4 69 (elA r)) (by kernel_rfl) BR (fun hS => ?_)
  refine wpAnyH_tk 0 (v := .agg (elA r)) rfl (by kernel_rfl) (by kernel_rfl) (by kernel_rfl) (yi rfl fun w' hw' => gives_loadRow rfl rfl hw' Try.underlying69 rfl (size69 r)) hS ?_
  go_frame
  refine wpAnyH_1 1 rfl (by kernel_rfl) ?_
  refine wp_call [] rfl rfl e55 rfl ((identity_any _).mono ?_)
  rintro e w3 ⟨rfl, hb3⟩
  have hb3' : Below w2.heap.size w2 w3 := ((Below.refl _ _).drew).trans hb3
  have BR3 := BR.below hb3' BR.lt
  have hB3 := hB2.trans (hb3'.mono hB2.size)
  clear hS BR hb3 hb3' hB2
  refine ⟨_, rfl, BR3, ?_⟩
  go_frame
  refine wpAnyH_tk 2 (v := .bool (decide (r = idE))) rfl (by kernel_rfl) (by kernel_rfl) (by kernel_rfl) (yi rfl fun w' hw' => gives_eql rfl rfl rfl HF.out.1 idE_PM) BR3 ?_
  go_frame
  refine wpAnyH_tk 3 (v := .bool (decide (r = idE))) rfl (by kernel_rfl) (by kernel_rfl) (by kernel_rfl) (yi rfl fun w' hw' => gives_move (.inr rfl) rfl) BR3 ?_
  go_frame
  refine wpAnyH_done (by kernel_rfl) (noPanic_mk ?_) _
  go_wp2
  go_ret
  exact ⟨decide (r = idE), by rw [← HM.out]; exact decide_eq_true_iff, rfl, hB3⟩

/-- The error of checkWith. -/
def gfW (n : Int) (xss : List (List Int)) (xs : List Int) : Int := if gf n xss = 0 then gf n [xs] else gf n xss

set_option maxHeartbeats 1000000 in
theorem checkWith_any (A B : Option Addr) (n : Int) (l c m d : Nat) (xss : List (List Int)) (xs : List Int) (w : World) (hx : ILL w A l xss) (hy : IL w B m xs) (hn : (Lit.int .i64 n).wf = true) :
    Calls Try.prog 39 #[.int .i64 n, .slice A l c, .slice B m d] w fun e w' => e = .returned (.int .i64 (gfW n xss xs)) ∧ Below w.heap.size w w' := by
  have HX := hide hx
  have HY := hide hy
  have HWF := hide hn
  clear hx hy hn
  by_cases h0 : gf n xss = 0
  · have H0 := hide h0
    have HE : Hid (gfW n xss xs = gf n [xs]) := by unfold gfW; rw [if_pos h0]; exact rfl
    clear h0
    go_enter Try.func39, Try.ntmps39
    go_wp2_with fail
    refine (gcheck_any A n l c xss w HX.out HWF.out).mono ?_
    rw [H0.out]
    rintro e w1 ⟨rfl, hb1⟩
    have HO := hide (ILL.one (d := d) (HY.out.below hb1))
    go_wp2_with fail
    refine (gcheck_any _ n 1 1 [xs] _ HO.out HWF.out).mono ?_
    rintro e w2 ⟨rfl, hb2⟩
    have hb02 : Below w.heap.size w w2 := (hb1.alloc hb1.size _).trans (hb2.mono (by rw [World.size_alloc]; have := hb1.size; omega))
    rw [← HE.out]
    go_wp2
    go_ret
    exact ⟨rfl, hb02⟩
  · have hpb : (gf n xss == 0) = false := by simpa using h0
    have hpb2 : (gf n xss != 0) = true := by simpa using h0
    have HE : Hid (gfW n xss xs = gf n xss) := by unfold gfW; rw [if_neg h0]; exact rfl
    obtain ⟨f, hff⟩ : ∃ f, gf n xss = f := ⟨_, rfl⟩
    have HF := hide hff
    rw [hff] at hpb hpb2 HE
    clear h0 hff
    go_enter Try.func39, Try.ntmps39
    go_wp2_with fail
    refine (gcheck_any A n l c xss w HX.out HWF.out).mono ?_
    rw [HF.out]
    rintro e w1 ⟨rfl, hb1⟩
    go_wp2
    go_ret
    rw [HE.out]
    exact ⟨rfl, hb1⟩
theorem gfW_zero {n : Int} {xss : List (List Int)} {xs : List Int} (h : gfW n xss xs = 0) : ∃ (m : Nat) (gl : List (List Nat)) (g : List Nat), n = (m : Int) ∧ m ≤ 9 ∧ xss = zss gl ∧ gl.length ≤ 6 ∧ PMs m gl ∧ xs = zs g ∧ PM m g := by
  unfold gfW at h
  by_cases h0 : gf n xss = 0
  · rw [if_pos h0] at h
    obtain ⟨m, gl, rfl, hm, rfl, hl, hP⟩ := gf_zero h0
    obtain ⟨m', gl', hmm, _, hxs, _, hP'⟩ := gf_zero h
    obtain rfl : m = m' := by omega
    cases gl' with
    | nil => simp at hxs
    | cons g t =>
      simp only [List.map_cons, List.cons.injEq] at hxs
      exact ⟨m, gl, g, rfl, hm, rfl, hl, hP, hxs.1, hP' g (by simp)⟩
  · rw [if_neg h0] at h
    exact absurd h h0
theorem gfW_ok {m : Nat} {gl : List (List Nat)} {g : List Nat} (hm : m ≤ 9) (hl : gl.length ≤ 6) (hP : PMs m gl) (hg : PM m g) : gfW m (zss gl) (zs g) = 0 := by
  unfold gfW
  rw [show gf m (zss gl) = 0 from gf_ok hm hl hP, if_pos rfl]
  exact gf_ok (gl := [g]) hm (by simp) fun x hx => by
    obtain rfl : x = g := by simpa using hx
    exact hg

set_option maxHeartbeats 1000000 in
theorem gcont_err (A B : Option Addr) (n : Int) (l c m d : Nat) (xss : List (List Int)) (xs : List Int) (w : World) (hx : ILL w A l xss) (hy : IL w B m xs) (hn : (Lit.int .i64 n).wf = true) (hf : gfW n xss xs ≠ 0) :
    Calls Try.prog 14 #[.int .i64 n, .slice A l c, .slice B m d] w fun e w' => e = .returned (.tuple #[.bool false, .int .i64 (gfW n xss xs)]) ∧ Below w.heap.size w w' := by
  have HC := hide (checkWith_any A B n l c m d xss xs w hx hy hn)
  have hpb : (gfW n xss xs == 0) = false := by simpa using hf
  have hpb2 : (gfW n xss xs != 0) = true := by simpa using hf
  obtain ⟨f, hff⟩ : ∃ f, gfW n xss xs = f := ⟨_, rfl⟩
  rw [hff] at hpb hpb2 HC ⊢
  clear hx hy hn hf hff
  go_enter Try.func14, Try.ntmps14
  go_wp2_with fail
  refine HC.out.mono ?_
  rintro e w1 ⟨rfl, hb1⟩
  go_wp2
  go_ret2
  exact ⟨rfl, hb1⟩
set_option maxHeartbeats 1000000 in
theorem gcont_ok (A B : Option Addr) (n l c m d : Nat) (gl : List (List Nat)) (g : List Nat) (w : World) (hx : ILL w A l (zss gl)) (hy : IL w B m (zs g)) (hn : n ≤ 9) (hl : gl.length ≤ 6) (hP : PMs n gl) (hg : PM n g) :
    Calls Try.prog 14 #[.int .i64 n, .slice A l c, .slice B m d] w fun e w' => ∃ b, (b = true ↔ Gen n gl g) ∧ e = .returned (.tuple #[.bool b, .int .i64 0]) ∧ Below w.heap.size w w' := by
  have hwf : (Lit.int .i64 (n : Int)).wf = true := by
    simp [Lit.wf, IntKind.min, IntKind.max, IntKind.signed, IntKind.bits]
    omega
  have HC := hide (checkWith_any A B n l c m d (zss gl) (zs g) w hx hy hwf)
  rw [gfW_ok hn hl hP hg] at HC
  have HX := hide hx
  have HY := hide hy
  have HP := hide hP
  have HG := hide hg
  clear hwf hx hy hP hg
  go_enter Try.func14, Try.ntmps14
  go_wp2_with fail
  refine HC.out.mono ?_
  rintro e w1 ⟨rfl, hb1⟩
  have HX1 := hide (HX.out.below hb1)
  go_wp2_with fail
  refine (chainOf_any A l c n gl w1 HX1.out hn HP.out).mono ?_
  rintro e w2 ⟨ch, L, rfl, hm2, hok, hmem, hb2⟩
  have HME := hide hmem
  have hb02 := hb1.trans (hb2.mono hb1.size)
  have HM2 := hide hm2
  have HOK := hide hok
  have HY2 := hide (HY.out.below hb02)
  clear hb1 hb2 hm2 hmem hok
  go_wp2_with fail
  refine (elementOf_any B m d g w2 HY2.out HG.out.1 (by rw [HG.out.2]; exact hn)).mono ?_
  rintro e w3 ⟨rfl, hb3⟩
  have hb03 := hb02.trans (hb3.mono hb02.size)
  have HM3 := hide (HM2.out.below hb3)
  clear hb02 hb3
  go_wp2_with fail
  refine (containsC_any ch L (ext g) w3 HOK.out (ext_PM HG.out hn) HM3.out).mono ?_
  rintro e w4 ⟨b, hb, rfl, hb4⟩
  have hb04 := hb03.trans (hb4.mono hb03.size)
  have HB : Hid (b = true ↔ Gen n gl g) := by
    rw [HME.out, gen_ext hn HP.out HG.out] at hb
    exact hb
  clear hb hb4 hb03
  go_wp2
  go_ret2
  exact ⟨b, HB.out, rfl, hb04⟩
end Go.Proofs.Ytnpdlfnhpghkmaa
