/- timbmake.Perms; timbkeep1.grouped. -/
import Derived.Test.YtnpdlfnhpghkmaaOrd
namespace Go.Proofs.Ytnpdlfnhpghkmaa
open Go.RowKit Go.Maps

theorem ILL.of_rows {w : World} {base n c : Nat} {A : Option Addr} {vs : List Value} {xss : List (List Int)} (h : OwnV w base A n c vs) (hr : RowsI w base vs xss) : ILL w A n xss := by
  have hl := h.len
  refine ⟨by rw [← hr.len]; exact hl, by have := h.small; omega, fun hn => ?_⟩
  obtain ⟨g, rfl, _⟩ := h.cellAt hn
  refine ⟨⟨g, 0, none⟩, rfl, (h.lt g rfl).2, fun j hj => ?_⟩
  obtain ⟨g', e, hc⟩ := h.cellAt hj
  injection e with e
  injection e with e
  subst e
  obtain ⟨B, m, d, h1, h2⟩ := hr.row j (by omega)
  exact ⟨B, m, d, by rw [add_zero_block, hc, h1], h2.il⟩
theorem ILL.pre {w : World} {A : Option Addr} {n k : Nat} {xss : List (List Int)} (h : ILL w A n xss) (hk : k ≤ n) : ILL w A k (xss.take k) := by
  have hl := h.len
  refine ⟨by rw [List.length_take]; omega, by have := h.small; omega, fun h0 => ?_⟩
  obtain ⟨ad, e, hlt, hc⟩ := h.mem (by omega)
  refine ⟨ad, e, hlt, fun j hj => ?_⟩
  obtain ⟨B, m, d, h1, h2⟩ := hc j (by omega)
  refine ⟨B, m, d, h1, ?_⟩
  have : (xss.take k).getD j [] = xss.getD j [] := by simp [List.getD, List.getElem?_take, hj]
  rw [this]
  exact h2
theorem OwnV.cap {w : World} {base n c : Nat} {A : Option Addr} {vs : List Value} (h : OwnV w base A n c vs) : n ≤ c := by
  rcases h.own.2 with ⟨hv, h0⟩ | ⟨g, cap, cur, hv, _, _, hnc, _⟩
  · omega
  · simp only [Value.slice.injEq, true_and] at hv
    omega

theorem info23 : (Try.prog.info? 23).map (fun i => (i.zero, i.size, i.bytes)) = some (some (.slice none 0 0), 1, 24) := by kernel_rfl

/-- The state of Perms' loop. -/
structure PeSt (w wr : World) (n : Nat) (A : Option Addr) (k c : Nat) (vs : List Value) (gl : List (List Nat)) : Prop where
  own : OwnV wr w.heap.size A k c vs
  rows : RowsI wr w.heap.size vs (zss gl)
  pm : PMs n gl
  len : gl.length = k
  below : Below w.heap.size w wr

theorem PeSt.next {w wr w2 w4 : World} {n k c m d : Nat} {A B' A4 : Option Addr} {c4 : Nat} {vs : List Value} {gl : List (List Nat)} {a : List Nat} (h : PeSt w wr n A k c vs gl) (ha : PM n a) (hb2 : Below wr.heap.size wr w2) (ho : OwnI w2 wr.heap.size B' m d (zs a)) (o : Obj)
    (hap : AppendedV (w2.alloc o) w.heap.size A (k + 1) c (vs ++ [.slice B' m d]) A4 c4 w4) : PeSt w w4 n A4 (k + 1) c4 (vs ++ [.slice B' m d]) (gl ++ [a]) := by
  have hs := h.below.size
  have k1 : KeepT 3 wr w2 := KeepT.below hb2
  have k2 : KeepT 3 w2 (w2.alloc o) := KeepT.alloc _ _
  have k1' : KeepT 23 wr w2 := KeepT.below hb2
  have k2' : KeepT 23 w2 (w2.alloc o) := KeepT.alloc _ _
  have own2 := (h.own.keep k1').keep k2'
  have k3 : KeepT 3 (w2.alloc o) w4 := KeepT.grown hap.grown (fun b hb => (own2.block b (by rw [← hb]; exact ownBlock_len A k (k + 1) c c)))
  have hB4 : Below w.heap.size w w4 := ((h.below.trans (hb2.mono hs)).alloc (Nat.le_trans hs hb2.size) o).grown hap.grown (by simp; have := hb2.size; omega) (fun b hb => (own2.lt b (by rw [← hb]; exact ownBlock_len A k (k + 1) c c)).1)
  refine ⟨hap.own, ?_, fun g hg => ?_, by simp [h.len], hB4⟩
  · have r1 := (((h.rows.keep k1).keep k2).keep k3)
    have o1 : OwnI w4 w.heap.size B' m d (zs a) := k3.ownI (k2.ownI (ho.mono hs))
    have := r1.snoc o1
    rw [show zss (gl ++ [a]) = zss gl ++ [zs a] by simp [zss]]
    exact this
  · rcases List.mem_append.1 hg with hg | hg
    · exact h.pm g hg
    · obtain rfl : g = a := by simpa using hg
      exact ha

set_option maxRecDepth 100000 in
set_option maxHeartbeats 2000000 in
theorem perms_any (A : Option Addr) (n l c : Nat) (xss : List (List Int)) (most : Nat) (w : World) (hx : ILL w A l xss) (hc : l ≤ c) (hn : n ≤ 9) (hm : most ≤ 1000) :
    Calls Try.prog 28 #[.int .i64 n, .slice A l c, .int .i64 most] w fun e w' => ∃ gl B k d, e = .returned (.slice B k d) ∧ ILL w' B k (zss gl) ∧ k ≤ d ∧ k ≤ most ∧ PMs n gl ∧ Below w.heap.size w w' := by
  obtain ⟨i0, hi0, hz0, hz1, hz2⟩ := info_parts info23
  have HX := hide hx
  have hsm := hx.small
  clear hx
  go_enter Try.func28, Try.ntmps28
  by_cases hlm : l ≤ most
  · skip
    have hHK : Hid (ILL w A l (xss.take l)) := HX.out.pre (Nat.le_refl _)
    have hKm : l ≤ most := by omega
    clear HX
    go_wp2
    go_loopw [7, 17] (fun ov iv wr => ∃ (k c7 : Nat) (A7 : Option Addr) (vs : List Value) (gl : List (List Nat)), ov = .slice A7 k c7 ∧ iv = .int .i64 k ∧ k ≤ l ∧ PeSt w wr n A7 k c7 vs gl) (fun _ iv _ => l - (intOf iv).toNat)
    case atStart => exact ⟨0, 0, none, [], [], rfl, rfl, by omega, ⟨OwnV.nil_ _ _, RowsI.nil_ _ _, fun g hg => by simp at hg, rfl, Below.refl _ _⟩⟩
    case round =>
      obtain ⟨k, c7, A7, vs, gl, rfl, rfl, hk, hst⟩ := hrel
      by_cases hlt : k < l
      · obtain ⟨ad, B, m, d, rfl, hcl, hil⟩ := (hHK.out.below hst.below).at_ hlt
        have HIL := hide hil
        have HST := hide hst
        clear hil hst
        go_wp2_with fail
        refine (mperm_any n B m d _ _ HIL.out (by omega)).mono ?_
        rintro e w2 ⟨a, pa, la, -, B', m', d', rfl, ho, hb2⟩
        have HO := hide ho
        have HB2 := hide hb2
        have own2 := (HST.out.own.keep (KeepT.below hb2)).alloc (.cells #[.slice B' m' d'] 23)
        have hs0 := HST.out.below.size
        have hs2 := hb2.size
        clear ho hb2 hcl
        go_wp2_with (at_builtin; refine wpList_append_val _ rfl _ _ 22 rfl w.heap.size i0 Try.underlying22 hi0 hz0 hz1 hz2 A7 k c7 vs rfl own2 ⟨_, 0, none⟩ 1 (.slice B' m' d') rfl (by simp [World.cell?_alloc_new]) rfl (by omega) (by simp; omega) ?_; intro A4 c4 w4 hap)
        have hN := HST.out.next ⟨pa, la⟩ HB2.out HO.out _ hap
        clear own2 hap
        go_roundw
        case rel => exact ⟨k + 1, c4, A4, _, _, by go_num, by go_num, by omega, hN⟩
        case measure => simp [intOf]; omega
      · have hkK : k = l := by omega
        go_wp2
        go_ret
        exact ⟨gl, A7, k, c7, rfl, ILL.of_rows hst.own hst.rows, hst.own.cap, by omega, hst.pm, hst.below⟩
  · skip
    have hHK : Hid (ILL w A most (xss.take most)) := HX.out.pre (by omega)
    have hKm : most ≤ most := by omega
    clear HX
    go_wp2
    go_loopw [7, 17] (fun ov iv wr => ∃ (k c7 : Nat) (A7 : Option Addr) (vs : List Value) (gl : List (List Nat)), ov = .slice A7 k c7 ∧ iv = .int .i64 k ∧ k ≤ most ∧ PeSt w wr n A7 k c7 vs gl) (fun _ iv _ => most - (intOf iv).toNat)
    case atStart => exact ⟨0, 0, none, [], [], rfl, rfl, by omega, ⟨OwnV.nil_ _ _, RowsI.nil_ _ _, fun g hg => by simp at hg, rfl, Below.refl _ _⟩⟩
    case round =>
      obtain ⟨k, c7, A7, vs, gl, rfl, rfl, hk, hst⟩ := hrel
      by_cases hlt : k < most
      · obtain ⟨ad, B, m, d, rfl, hcl, hil⟩ := (hHK.out.below hst.below).at_ hlt
        have HIL := hide hil
        have HST := hide hst
        clear hil hst
        go_wp2_with fail
        refine (mperm_any n B m d _ _ HIL.out (by omega)).mono ?_
        rintro e w2 ⟨a, pa, la, -, B', m', d', rfl, ho, hb2⟩
        have HO := hide ho
        have HB2 := hide hb2
        have own2 := (HST.out.own.keep (KeepT.below hb2)).alloc (.cells #[.slice B' m' d'] 23)
        have hs0 := HST.out.below.size
        have hs2 := hb2.size
        clear ho hb2 hcl
        go_wp2_with (at_builtin; refine wpList_append_val _ rfl _ _ 22 rfl w.heap.size i0 Try.underlying22 hi0 hz0 hz1 hz2 A7 k c7 vs rfl own2 ⟨_, 0, none⟩ 1 (.slice B' m' d') rfl (by simp [World.cell?_alloc_new]) rfl (by omega) (by simp; omega) ?_; intro A4 c4 w4 hap)
        have hN := HST.out.next ⟨pa, la⟩ HB2.out HO.out _ hap
        clear own2 hap
        go_roundw
        case rel => exact ⟨k + 1, c4, A4, _, _, by go_num, by go_num, by omega, hN⟩
        case measure => simp [intOf]; omega
      · have hkK : k = most := by omega
        go_wp2
        go_ret
        exact ⟨gl, A7, k, c7, rfl, ILL.of_rows hst.own hst.rows, hst.own.cap, by omega, hst.pm, hst.below⟩
end Go.Proofs.Ytnpdlfnhpghkmaa
