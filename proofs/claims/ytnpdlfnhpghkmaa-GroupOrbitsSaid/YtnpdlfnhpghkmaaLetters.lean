/- permgroup.lettersOf. -/
import Derived.Test.YtnpdlfnhpghkmaaRecs
import Derived.Test.YtnpdlfnhpghkmaaBase
import Derived.Test.YtnpdlfnhpghkmaaExt
namespace Go.Proofs.Ytnpdlfnhpghkmaa
open Go.RowKit Go.Maps

/-- A letter's cells. -/
def ltA (x : Int) (e : List Nat) : Array Value := (Value.int .i64 x :: (elA e).toList).toArray
theorem ltA_size (x : Int) (e : List Nat) : (ltA x e).size = 10 := by
  have := elA_size e
  simp [ltA, this]
theorem ltA_one (x : Int) (e : List Nat) : ∀ u ∈ (ltA x e).toList, u.oneCell' = true := by
  intro u hu
  have h1 := elA_one e
  rw [Array.all_eq_true_iff_forall_mem] at h1
  have hu' : u = .int .i64 x ∨ u ∈ (elA e).toList := by simpa [ltA] using hu
  rcases hu' with rfl | hu'
  · rfl
  · exact h1 u (by simpa using hu')
def recsL (ls : List Lt) : List (Array Value) := ls.map fun l => ltA l.1 (ext l.2)
theorem recsL_getD {ls : List Lt} {k : Nat} (h : k < ls.length) : (recsL ls).getD k #[] = ltA (ltAt ls k).1 (ext (ltAt ls k).2) := by
  simp [recsL, ltAt, List.getD, List.getElem?_map, List.getElem?_eq_getElem h]
theorem info94 : (Try.prog.info? 94).map (fun i => (i.zero, i.size, i.bytes)) = some (some (.agg (ltA 0 zero9)), 10, 24) := by kernel_rfl
theorem builtL (x : Int) (e : List Nat) : Try.prog.built 94 [(0, .int .i64 x), (1, .agg (elA e))] = some (ltA x e) := by kernel_rfl
theorem fillL2 (x y : Int) (e f : List Nat) : Instr.fill (fun i => some (i * 10, 10)) ((Array.range (2 * 10)).map ((ltA 0 zero9)[· % (ltA 0 zero9).size]!)) [(0, .agg (ltA x e)), (1, .agg (ltA y f))] = some (ltA x e ++ ltA y f) := by kernel_rfl
theorem zeroL_cells : (Value.agg (ltA 0 zero9)).cells.size = 10 := ltA_size _ _

set_option maxRecDepth 100000 in
set_option maxHeartbeats 4000000 in
theorem lettersOf_any (A : Option Addr) (m l c : Nat) (gl : List (List Nat)) (w : World) (hx : ILL w A l (zss gl)) (hm : m ≤ 9) (hl : gl.length ≤ 6) (hP : PMs m gl) :
    Calls Try.prog 52 #[.slice A l c] w fun e w' => ∃ B n d, e = .returned (.slice B n d) ∧ OwnR 94 10 w' w.heap.size B n d (recsL (lts gl)) ∧ Below w.heap.size w w' := by
  obtain ⟨i0, hi0, hz0, hz1, hz2⟩ := info_parts info94
  have hgl : gl.length = l := by have := hx.len; simpa [zss] using this
  have HX := hide hx
  have HP := hide hP
  have HGL := hide hgl
  have hl6 : l ≤ 6 := by omega
  clear hx hP hgl hl
  go_enter Try.func52, Try.ntmps52
  go_wp2
  go_loopw [3, 9] (fun ov iv wr => ∃ (k n d : Nat) (B : Option Addr), ov = .slice B n d ∧ iv = .int .i64 k ∧ k ≤ l ∧ OwnR 94 10 wr w.heap.size B n d (recsL (ltsTo gl k)) ∧ Below w.heap.size w wr) (fun _ iv _ => l - (intOf iv).toNat)
  case atStart => exact ⟨0, 0, 0, none, rfl, rfl, by omega, OwnR.nil_ _ _ _ _, Below.refl _ _⟩
  case round =>
    obtain ⟨k, n, d, B, rfl, rfl, hk, how, hnx⟩ := hrel
    have hn12 : n = 2 * k := by rw [← how.len]; unfold recsL; rw [List.length_map, ltsTo_length]
    have hn : n ≤ 12 := by omega
    clear hn12
    by_cases hlt : k < l
    · have hkg : k < gl.length := by rw [HGL.out]; exact hlt
      obtain ⟨ad, B2, m2, d2, rfl, hcl, hil⟩ := (HX.out.below hnx).at_ hlt
      rw [zss_getD hkg] at hil
      have hpk : PM m (gl.getD k []) := HP.out _ (getD_mem'' hkg)
      have HPK := hide hpk
      have HIL := hide hil
      have HPE := hide (ext_PM hpk hm)
      clear hkg hpk hil
      have HLS : Hid (recsL (ltsTo gl (k + 1)) = recsL (ltsTo gl k) ++ [ltA ((k : Int) + 1) (ext (gl.getD k [])), ltA (-(k : Int) - 1) (ext (inv (gl.getD k [])))]) := by
        rw [ltsTo_succ]; unfold recsL; rw [List.map_append]; exact rfl
      obtain ⟨g, hg⟩ : ∃ g, gl.getD k [] = g := ⟨_, rfl⟩
      rw [hg] at HPK HIL HPE HLS
      clear hg
      go_wp2_with fail
      refine (elementOf_any B2 m2 d2 g wr HIL.out HPK.out.1 (by rw [HPK.out.2]; exact hm)).mono ?_
      rintro e w1 ⟨rfl, hb1⟩
      have how1 := how.below hb1
      have hnx1 := hnx.trans (hb1.mono hnx.size)
      clear how hnx hb1 hcl
      have BZ : Blk (w1.alloc (Obj.cells (elA zero9) 69)) w1.heap.size 69 (elA zero9) := Blk.new _ _ _
      go_wp2_with ((with_reducible show wpList _ _ _ (Oper.mk _ (.store 69 _ _) _ _ _ _ :: _) _ _); refine wpList_store_el rfl _ _ rfl _ _ _ rfl rfl BZ ?_; rw [World.setRow_alloc_new])
      have how2 := how1.below ((Below.refl _ _).alloc (Nat.le_refl _) (.cells (elA (ext g)) 69))
      have hnx2 := hnx1.alloc hnx1.size (.cells (elA (ext g)) 69)
      have BR : Blk (w1.alloc (Obj.cells (elA (ext g)) 69)) w1.heap.size 69 (elA (ext g)) := Blk.new _ _ _
      clear BZ how1
      generalize hN : w1.heap.size = g6 at *
      clear hnx1
      generalize w1.alloc (Obj.cells (elA (ext g)) 69) = w2 at *
      clear hN
      refine wp_region_noPanic ?_
      refine wp_region_held_drew (S := fun w' => Blk w' g6 69 (elA (ext g))) (by kernel_rfl) BR (fun hS => ?_)
      refine wpAnyH_tk 0 (v := .slice B n d) rfl (by kernel_rfl) (by kernel_rfl) (by kernel_rfl) (yi rfl fun w' hw' => gives_move (.inl rfl) rfl) hS ?_
      go_frame
      refine wpAnyH_tk 1 (v := .int .i64 k) rfl (by kernel_rfl) (by kernel_rfl) (by kernel_rfl) (yi rfl fun w' hw' => gives_move (.inl rfl) rfl) hS ?_
      go_frame
      refine wpAnyH_tk 2 (v := .int .i64 ((k : Int) + 1)) rfl (by kernel_rfl) (by kernel_rfl) (by kernel_rfl) (yi rfl fun w' hw' => gives_add rfl rfl rfl (by unfold wrap64; omega)) hS ?_
      go_frame
      refine wpAnyH_tk 3 (v := .agg (elA (ext g))) rfl (by kernel_rfl) (by kernel_rfl) (by kernel_rfl) (yi rfl fun w' hw' => gives_loadRow rfl rfl hw' Try.underlying69 rfl (size69 _)) hS ?_
      go_frame
      refine wpAnyH_tk 4 (v := .agg (ltA ((k : Int) + 1) (ext g))) rfl (by kernel_rfl) (by kernel_rfl) (by kernel_rfl) (yi rfl fun w' hw' => gives_build [(0, .int .i64 ((k : Int) + 1)), (1, .agg (elA (ext g)))] (l := [(0, Operand.tmp 18), (1, Operand.tmp 19)]) rfl rfl (builtL _ _)) hS ?_
      go_frame
      refine wpAnyH_tk 5 (v := .int .i64 k) rfl (by kernel_rfl) (by kernel_rfl) (by kernel_rfl) (yi rfl fun w' hw' => gives_move (.inl rfl) rfl) hS ?_
      go_frame
      refine wpAnyH_tk 6 (v := .int .i64 (-(k : Int))) rfl (by kernel_rfl) (by kernel_rfl) (by kernel_rfl) (yi rfl fun w' hw' => gives_neg rfl rfl (by unfold wrap64; omega)) hS ?_
      go_frame
      refine wpAnyH_tk 7 (v := .int .i64 (-(k : Int) - 1)) rfl (by kernel_rfl) (by kernel_rfl) (by kernel_rfl) (yi rfl fun w' hw' => gives_sub rfl rfl rfl (by unfold wrap64; omega)) hS ?_
      go_frame
      refine wpAnyH_tk 8 (v := .agg (elA (ext g))) rfl (by kernel_rfl) (by kernel_rfl) (by kernel_rfl) (yi rfl fun w' hw' => gives_loadRow rfl rfl hw' Try.underlying69 rfl (size69 _)) hS ?_
      go_frame
      refine wpAnyH_1 9 rfl (by kernel_rfl) ?_
      refine wp_call [.agg (elA (ext g))] rfl rfl e58 rfl ((inverseE_any _ _ HPE.out.1 HPE.out.2).mono ?_)
      rintro e w3 ⟨rfl, hb3⟩
      have hb3' : Below w2.heap.size w2 w3 := ((Below.refl _ _).drew).trans hb3
      have how3 := how2.below hb3'
      have BR3 := BR.below hb3' BR.lt
      have hnx3 := hnx2.trans (hb3'.mono hnx2.size)
      clear hS BR hb3 hb3' hnx2 how2
      refine ⟨_, rfl, BR3, ?_⟩
      go_frame
      refine wpAnyH_tk 10 (v := .agg (ltA (-(k : Int) - 1) (inv (ext g)))) rfl (by kernel_rfl) (by kernel_rfl) (by kernel_rfl) (yi rfl fun w' hw' => gives_build [(0, .int .i64 (-(k : Int) - 1)), (1, .agg (elA (inv (ext g))))] (l := [(0, Operand.tmp 23), (1, Operand.tmp 25)]) rfl rfl (builtL _ _)) BR3 ?_
      go_frame
      refine wpAnyH_1 11 rfl (by kernel_rfl) ?_
      refine wp_buildSlice_at (l := [(0, Operand.tmp 20), (1, Operand.tmp 26)]) i0 _ 10 [(0, .agg (ltA ((k : Int) + 1) (ext g))), (1, .agg (ltA (-(k : Int) - 1) (inv (ext g))))] rfl Try.underlying79 hi0 hz0 hz1 (by decide) (by decide) rfl (fillL2 _ _ _ _) ?_
      have BR4 := BR3.alloc (.cells (ltA ((k : Int) + 1) (ext g) ++ ltA (-(k : Int) - 1) (inv (ext g))) 94)
      have how4 := how3.below ((Below.refl _ _).alloc (Nat.le_refl _) (.cells (ltA ((k : Int) + 1) (ext g) ++ ltA (-(k : Int) - 1) (inv (ext g))) 94))
      have hnx4 := hnx3.alloc hnx3.size (.cells (ltA ((k : Int) + 1) (ext g) ++ ltA (-(k : Int) - 1) (inv (ext g))) 94)
      refine ⟨BR4, ?_⟩
      go_frame
      refine wpAnyH_1 12 rfl (by kernel_rfl) ?_
      refine wp_append_recs (.tmp 16) (.tmp 27) 79 rfl w.heap.size i0 _ 24 Try.underlying79 hi0 hz0 hz1 hz2 zeroL_cells (by omega) (by omega) B n d (recsL (ltsTo gl k)) rfl how4 w3.heap.size 2 2 rfl (by omega)
        [ltA ((k : Int) + 1) (ext g), ltA (-(k : Int) - 1) (inv (ext g))] _ (Blk.new _ _ _) (by simp [cellsR]) rfl (by intro r hr; simp only [List.mem_cons, List.not_mem_nil, or_false] at hr; rcases hr with rfl | rfl <;> exact ltA_size _ _)
        (by intro u hu; simp only [cellsR, List.flatMap_cons, List.flatMap_nil, List.append_nil, List.mem_append] at hu; rcases hu with hu | hu <;> exact ltA_one _ _ u hu) (by omega) (Nat.le_trans hnx3.size (by simp)) ?_
      intro A5 c5 w5 hap
      have BR5 := BR4.grown hap.grown (how4.ne_ BR4 (by decide))
      have hnx5 := hnx4.grown hap.grown hnx4.size (fun b hb => (how4.block b (by rw [← hb])).1)
      have how5 := hap.own
      clear hap how4 how3 BR4 BR3 hnx4 hnx3
      refine ⟨BR5, ?_⟩
      go_frame
      refine wpAnyH_tk 13 (v := .slice A5 (n + 2) c5) rfl (by kernel_rfl) (by kernel_rfl) (by kernel_rfl) (yi rfl fun w' hw' => gives_move (.inr rfl) rfl) BR5 ?_
      go_frame
      refine wpAnyH_done (by kernel_rfl) (noPanic_mk ?_) _
      have HOW : Hid (OwnR 94 10 w5 w.heap.size A5 (n + 2) c5 (recsL (ltsTo gl (k + 1)))) := by
        rw [HLS.out, ext_inv HPK.out hm]; exact how5
      clear how5 BR5
      go_wp2
      go_roundw
      case rel => exact ⟨k + 1, n + 2, c5, A5, rfl, by go_num, by omega, HOW.out, hnx5⟩
      case measure => simp [intOf]; omega
    · have hkl : k = gl.length := by rw [HGL.out]; omega
      rw [hkl] at how
      go_wp2
      go_ret
      exact ⟨B, n, d, rfl, how, hnx⟩
end Go.Proofs.Ytnpdlfnhpghkmaa
