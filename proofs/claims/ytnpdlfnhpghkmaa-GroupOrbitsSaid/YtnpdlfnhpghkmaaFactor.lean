/- permgroup.Factor. -/
import Derived.Test.YtnpdlfnhpghkmaaShort
import Derived.Test.YtnpdlfnhpghkmaaCont
namespace Go.Proofs.Ytnpdlfnhpghkmaa
open Go.RowKit Go.Maps

theorem ext_take {n : Nat} {q : List Nat} (hq : PM n q) (hn : n ≤ 9) : (ext q).take n = q := by
  have hl : ((ext q).take n).length = n := by rw [List.length_take, (ext_PM hq hn).2]; omega
  apply list_ext_getD (hl.trans hq.2.symm)
  intro j hj
  rw [hl] at hj
  have : ((ext q).take n).getD j 0 = (ext q).getD j 0 := by
    simp only [List.getD, List.getElem?_take, hj, if_true]
  rw [this, ext_getD hq (by omega), if_pos hj]
theorem take_mem_ext {n : Nat} {gl xs : List (List Nat)} (hn : n ≤ 9) (hP : PMs n gl) (he : EnumG 9 (gl.map ext) xs) (q : List Nat) (hq : Gen n gl q) : q ∈ xs.map fun e => e.take n :=
  List.mem_map.2 ⟨ext q, (he.mem _).2 (hq.up hn hP), ext_take (hq.pm hP) hn⟩
theorem e40 : ∀ args w, (callFunc 40 args).run Try.prog w = .ok (.enter 40 args) w := enters (fn := Try.f40) (by kernel_rfl) (by kernel_rfl) (by kernel_rfl)
theorem e41 : ∀ args w, (callFunc 41 args).run Try.prog w = .ok (.enter 41 args) w := enters (fn := Try.f41) (by kernel_rfl) (by kernel_rfl) (by kernel_rfl)

set_option maxHeartbeats 1000000 in
theorem gfac_err (A B : Option Addr) (n : Int) (l c m d : Nat) (xss : List (List Int)) (xs : List Int) (w : World) (hx : ILL w A l xss) (hy : IL w B m xs) (hn : (Lit.int .i64 n).wf = true) (hf : gfW n xss xs ≠ 0) :
    Calls Try.prog 25 #[.int .i64 n, .slice A l c, .slice B m d] w fun e w' => e = .returned (.tuple #[.slice none 0 0, .int .i64 (gfW n xss xs)]) ∧ Below w.heap.size w w' := by
  have HC := hide (checkWith_any A B n l c m d xss xs w hx hy hn)
  have hpb : (gfW n xss xs == 0) = false := by simpa using hf
  have hpb2 : (gfW n xss xs != 0) = true := by simpa using hf
  obtain ⟨f, hff⟩ : ∃ f, gfW n xss xs = f := ⟨_, rfl⟩
  rw [hff] at hpb hpb2 HC ⊢
  clear hx hy hn hf hff
  go_enter Try.func25, Try.ntmps25
  go_wp2_with fail
  refine HC.out.mono ?_
  rintro e w1 ⟨rfl, hb1⟩
  go_wp2
  go_ret2
  exact ⟨rfl, hb1⟩

/-- What Factor gives: the word of the element, as the search finds it. -/
def IsWord (n : Nat) (gl : List (List Nat)) (p : List Nat) (W : List Int) : Prop := ∃ f i, Bfs n (lts gl) i 0 f ∧ i < f.length ∧ (entAt f i).1 = p ∧ (entAt f i).2 = W

set_option maxRecDepth 100000 in
set_option maxHeartbeats 8000000 in
theorem gfac_ok (A B : Option Addr) (n l c m d : Nat) (gl : List (List Nat)) (g : List Nat) (xs : List (List Nat)) (w : World) (hx : ILL w A l (zss gl)) (hy : IL w B m (zs g)) (hn : n ≤ 9) (hl : gl.length ≤ 6) (hP : PMs n gl) (hg : PM n g) (he : EnumG 9 (gl.map ext) xs) (hxs : xs.length ≤ 5040) :
    Calls Try.prog 25 #[.int .i64 n, .slice A l c, .slice B m d] w fun e w' => Below w.heap.size w w' ∧
      (Gen n gl g ∧ (∃ W C k q, IsWord n gl g W ∧ e = .returned (.tuple #[.slice C k q, .int .i64 0]) ∧ OwnI w' w.heap.size C k q W) ∨ ¬ Gen n gl g ∧ e = .returned (.tuple #[.slice none 0 0, .int .i64 4])) := by
  have hwf : (Lit.int .i64 (n : Int)).wf = true := by
    simp [Lit.wf, IntKind.min, IntKind.max, IntKind.signed, IntKind.bits]
    omega
  have HC := hide (checkWith_any A B n l c m d (zss gl) (zs g) w hx hy hwf)
  rw [gfW_ok hn hl hP hg] at HC
  have HX := hide hx
  have HY := hide hy
  have HP := hide hP
  have HG := hide hg
  have HE := hide he
  have hgl : gl.length = l := by have := hx.len; simpa [zss] using this
  have HGL := hide hgl
  have HXL := hide hxs
  clear hwf hx hy hP hg he hgl hxs
  go_enter Try.func25, Try.ntmps25
  go_wp2_with fail
  refine HC.out.mono ?_
  rintro e w1 ⟨rfl, hb1⟩
  have HX1 := hide (HX.out.below hb1)
  go_wp2_with fail
  refine (chainOf_any A l c n gl w1 HX1.out hn HP.out).mono ?_
  rintro e w2 ⟨ch, L, rfl, hm2, hok, hmem, hb2⟩
  have HME := hide hmem
  have hb02 := hb1.trans (hb2.mono hb1.size)
  have HOK := hide hok
  have HLE : Hid ((enumS L 9).length ≤ 5040) := by
    rw [(enum_chain hok hmem).unique HE.out]; exact HXL.out
  have hb03 := hb02.alloc hb02.size (.cells (chA ch) 64)
  have HM3 := hide (hm2.below ((Below.refl _ _).alloc (Nat.le_refl _) (.cells (chA ch) 64)))
  have B9 : Blk (w2.alloc (.cells (chA ch) 64)) w2.heap.size 64 (chA ch) := Blk.new _ _ _
  clear hb1 hb2 hm2 hmem hok
  go_wp2_with (first
    | ((with_reducible show wpList _ _ _ (Oper.mk _ (.store 64 _ _) _ _ _ _ :: _) _ _); refine wpList_store_row rfl 64 _ _ rfl _ (chA ch) rfl rfl 64 (chK (fun _ => 0) 0) (Blk.new _ _ _) (size64 ch) (by rw [chA_size]; rfl) (chA_one ch) ?_; rw [World.setRow_alloc_new])
    | ((with_reducible show wpList _ _ _ (Oper.mk _ (.load 64 _) _ _ _ _ :: _) _ _); refine wpList_gives rfl (v := .agg (chA ch)) (gives_loadRow rfl rfl B9 Try.underlying64 rfl (size64 ch)) ?_))
  generalize hg9 : w2.heap.size = g9 at *
  clear hg9
  generalize w2.alloc (.cells (chA ch) 64) = w3 at *
  refine (orderC_any ch L w3 HM3.out).mono ?_
  rintro e w4 ⟨rfl, hb4⟩
  have hb04 := hb03.trans (hb4.mono hb03.size)
  have HM4 := hide (HM3.out.below hb4)
  have B94 := B9.below hb4 B9.lt
  have hle : (enumS L 9).length ≤ 5040 := HLE.out
  obtain ⟨ord, hord⟩ : ∃ ord, (enumS L 9).length = ord := ⟨_, rfl⟩
  rw [hord] at hle ⊢
  clear hb03 hb4 B9 hord
  have hgt : ((5040 : Int) < (ord : Int)) = False := by simp; omega
  clear hle
  go_wp2_with fail
  clear hgt
  have HY4 := hide (HY.out.below hb04)
  refine wp_region_noPanic ?_
  refine wp_region_held_drew (S := fun w' => Blk w' g9 64 (chA ch)) (by kernel_rfl) B94 (fun hS => ?_)
  refine wpAnyH_tk 0 (v := .agg (chA ch)) rfl (by kernel_rfl) (by kernel_rfl) (by kernel_rfl) (yi rfl fun w' hw' => gives_loadRow rfl rfl hw' Try.underlying64 rfl (size64 ch)) hS ?_
  go_frame
  refine wpAnyH_tk 1 (v := .slice B m d) rfl (by kernel_rfl) (by kernel_rfl) (by kernel_rfl) (yi rfl fun w' hw' => gives_move (.inl rfl) rfl) hS ?_
  go_frame
  refine wpAnyH_1 2 rfl (by kernel_rfl) ?_
  have hdr : Below w4.heap.size w4 w4.drew := (Below.refl _ _).drew
  refine wp_call [.slice B m d] rfl rfl e41 rfl ((elementOf_any B m d g _ (HY4.out.below hdr) HG.out.1 (by rw [HG.out.2]; exact hn)).mono ?_)
  rintro e w5 ⟨rfl, hb5⟩
  have hb5' : Below w4.heap.size w4 w5 := hdr.trans hb5
  have HM5 := hide (HM4.out.below hb5')
  have B95 := B94.below hb5' B94.lt
  have hb05 := hb04.trans (hb5'.mono hb04.size)
  clear hS B94 hb5 hb5' hb04 hdr
  refine ⟨_, rfl, B95, ?_⟩
  go_frame
  refine wpAnyH_1 3 rfl (by kernel_rfl) ?_
  refine wp_call [.agg (chA ch), .agg (elA (ext g))] rfl rfl e40 rfl ((containsC_any ch L (ext g) w5 HOK.out (ext_PM HG.out hn) HM5.out).mono ?_)
  rintro e w6 ⟨b, hb, rfl, hb6⟩
  have B96 := B95.below hb6 B95.lt
  have hb06 := hb05.trans (hb6.mono hb05.size)
  clear B95 hb05 hb6
  refine ⟨_, rfl, B96, ?_⟩
  go_frame
  refine wpAnyH_tk 4 (v := .bool (!b)) rfl (by kernel_rfl) (by kernel_rfl) (by kernel_rfl) (yi rfl fun w' hw' => gives_not rfl rfl) B96 ?_
  go_frame
  refine wpAnyH_done (by kernel_rfl) (noPanic_mk ?_) _
  rw [HME.out, gen_ext hn HP.out HG.out] at hb
  by_cases hgen : Gen n gl g
  · obtain rfl : b = true := hb.2 hgen
    have HGN := hide hgen
    clear hb hgen
    have HX6 := hide (HX.out.below hb06)
    have HLL : Hid (gl.length ≤ 6) := hide hl
    have HW6 := hide hb06
    clear hl hb06 B96
    rw [Bool.not_true]
    go_wp2_with fail
    refine (lettersOf_any A n l c gl w6 HX6.out hn HLL.out HP.out).mono ?_
    rintro e w7 ⟨BL, nl, dl, rfl, how, hb7⟩
    have hb06 := HW6.out
    have hb07 := hb06.trans (hb7.mono hb06.size)
    have HY7 := hide (HY.out.below hb07)
    have hnl : nl ≤ 12 := by
      have := how.len
      unfold recsL lts at this
      rw [List.length_map, ltsTo_length] at this
      have := HLL.out
      omega
    go_wp2_with fail
    refine (elementOf_any B m d g w7 HY7.out HG.out.1 (by rw [HG.out.2]; exact hn)).mono ?_
    rintro e w8 ⟨rfl, hb8⟩
    have how8 := how.below hb8
    have hb08 := hb07.trans (hb8.mono hb07.size)
    clear how hb7 hb8 hb06 hb07
    go_wp2_with fail
    refine (shortestWord_any BL n nl dl _ gl g (xs.map fun e => e.take n) w8 how8 hn hnl HP.out HGN.out (take_mem_ext hn HP.out HE.out) (by rw [List.length_map]; exact HXL.out)).mono ?_
    rintro e w9 ⟨f, i, C, k, q, hbf, hif, hip, rfl, ho, hb9⟩
    have hb09 := hb08.trans (hb9.mono hb08.size)
    have HW : Hid (IsWord n gl g (entAt f i).2) := ⟨f, i, hbf, hif, hip, rfl⟩
    have ho' := ho.mono hb08.size
    clear ho hbf hif hip hb9 hb08 how8
    go_wp2
    go_ret2
    exact ⟨hb09, .inl ⟨HGN.out, _, C, k, q, HW.out, rfl, ho'⟩⟩
  · obtain rfl : b = false := by
      cases b with
      | false => rfl
      | true => exact absurd (hb.1 rfl) hgen
    have HGN := hide hgen
    clear hb hgen B96 hl
    rw [Bool.not_false]
    go_wp2
    go_ret2
    exact ⟨hb06, .inr ⟨HGN.out, rfl⟩⟩
end Go.Proofs.Ytnpdlfnhpghkmaa
