/- permgroup.Orbits. -/
import Derived.Test.YtnpdlfnhpghkmaaOrbit
import Derived.Test.YtnpdlfnhpghkmaaPerms
namespace Go.Proofs.Ytnpdlfnhpghkmaa
open Go.RowKit Go.Maps

theorem mem_zs_nat {us : List Nat} {k : Nat} : (k : Int) ∈ zs us ↔ k ∈ us := by
  unfold zs
  rw [List.mem_map]
  constructor
  · rintro ⟨u, hu, e⟩
    have e' : (u : Int) = k := e
    obtain rfl : u = k := by omega
    exact hu
  · exact fun h => ⟨k, h, rfl⟩
theorem zs_snoc (us : List Nat) (x : Nat) : zs us ++ [(x : Int)] = zs (us ++ [x]) := by simp [zs]
theorem OrbTo.len_le {n k : Nat} {gl oss : List (List Nat)} (h : OrbTo n gl k oss) : oss.length ≤ k := by
  induction h with
  | nil => simp
  | skip _ _ ih => omega
  | add _ _ _ ih => rw [List.length_append]; simp; omega
theorem OwnV.ne_ {w : World} {base n c g : Nat} {A : Option Addr} {vs : List Value} {t : TypeId} {cs : Array Value} (h : OwnV w base A n c vs) (hb : Blk w g t cs) (ht : t ≠ 23) : some g ≠ (Value.slice A n c).ownBlock := by
  intro e
  rcases h.own.2 with ⟨hv, _⟩ | ⟨k, cap, cur, hv, _, hh, _⟩
  · rw [hv] at e; cases e
  · rw [hv] at e
    injection e with e
    subst e
    unfold Blk at hb
    rw [hb] at hh
    injection hh with hh
    injection hh with _ hh
    exact ht hh

/-- The state of Orbits' loop. -/
structure ObSt (w wr : World) (s n : Nat) (gl : List (List Nat)) (A : Option Addr) (k q c : Nat) (vs : List Value) (oss : List (List Nat)) : Prop where
  own : OwnV wr w.heap.size A q c vs
  rows : RowsI wr w.heap.size vs (zss oss)
  orb : OrbTo n gl k oss
  len : oss.length = q
  seen : Blk wr s 75 (seenA (zs oss.flatten))
  below : Below w.heap.size w wr
/-- Within the loop that marks. -/
structure MkSt (w w2 w3 : World) (s : Nat) (us : List Nat) : Prop where
  k3 : KeepT 3 w2 w3
  k23 : KeepT 23 w2 w3
  seen : Blk w3 s 75 (seenA (zs us))
  below : Below w.heap.size w w3
  size : w2.heap.size ≤ w3.heap.size
theorem MkSt.set_ {w w2 w3 : World} {s : Nat} {us : List Nat} (h : MkSt w w2 w3 s us) (hs : w.heap.size ≤ s) (x : Nat) : MkSt w w2 (w3.setCell ⟨s, x, none⟩ (.bool true)) s (us ++ [x]) := by
  refine ⟨h.k3.trans (KeepT.set_ h.seen (by decide) _ _), h.k23.trans (KeepT.set_ h.seen (by decide) _ _), ?_, h.below.setCell hs _, by simpa using h.size⟩
  rw [← zs_snoc, ← seenA_set]
  exact h.seen.set_ _ _
section
variable {w wr w2 w3 w4 : World} {s n k q c m d : Nat} {A B' A4 : Option Addr} {c4 : Nat} {vs : List Value} {gl oss : List (List Nat)} {os : List Nat}
theorem ObSt.skip (h : ObSt w wr s n gl A k q c vs oss) (hk : k ∈ oss.flatten) : ObSt w wr s n gl A (k + 1) q c vs oss :=
  ⟨h.own, h.rows, .skip h.orb (by obtain ⟨o, ho, hx⟩ := List.mem_flatten.1 hk; exact ⟨o, ho, hx⟩), h.len, h.seen, h.below⟩
theorem ObSt.mark (h : ObSt w wr s n gl A k q c vs oss) (hb : Below wr.heap.size wr w2) : MkSt w w2 w2 s oss.flatten :=
  ⟨KeepT.refl _ _, KeepT.refl _ _, h.seen.below hb h.seen.lt, h.below.trans (hb.mono h.below.size), Nat.le_refl _⟩
theorem ObSt.own3 (h : ObSt w wr s n gl A k q c vs oss) (hb : Below wr.heap.size wr w2) (hm : MkSt w w2 w3 s (oss.flatten ++ os)) (o : Obj) : OwnV (w3.alloc o) w.heap.size A q c vs :=
  ((h.own.keep (KeepT.below hb)).keep hm.k23).alloc o
theorem ObSt.add (h : ObSt w wr s n gl A k q c vs oss) (hk : k ∉ oss.flatten) (hi : IsOrb n gl k os) (hb : Below wr.heap.size wr w2) (ho : OwnI w2 wr.heap.size B' m d (zs os)) (hm : MkSt w w2 w3 s (oss.flatten ++ os)) (o : Obj)
    (hap : AppendedV (w3.alloc o) w.heap.size A (q + 1) c (vs ++ [.slice B' m d]) A4 c4 w4) : ObSt w w4 s n gl A4 (k + 1) (q + 1) c4 (vs ++ [.slice B' m d]) (oss ++ [os]) := by
  have hs := h.below.size
  have own3 := h.own3 hb hm o
  have kk : KeepT 3 (w3.alloc o) w4 := KeepT.grown hap.grown (fun b hb => own3.block b (by rw [← hb]; exact ownBlock_len A q (q + 1) c c))
  have hw : w.heap.size ≤ w3.heap.size := hm.below.size
  refine ⟨hap.own, ?_, .add h.orb (fun o ho hx => hk (List.mem_flatten.2 ⟨o, ho, hx⟩)) hi, by simp [h.len], ?_, (hm.below.alloc hw o).grown hap.grown (by simp; omega) (fun b hb => (own3.lt b (by rw [← hb]; exact ownBlock_len A q (q + 1) c c)).1)⟩
  · have r1 := (((h.rows.keep (KeepT.below hb)).keep hm.k3).keep (KeepT.alloc _ o)).keep kk
    have o1 : OwnI w4 w.heap.size B' m d (zs os) := kk.ownI ((KeepT.alloc _ o).ownI (hm.k3.ownI (ho.mono hs)))
    have := r1.snoc o1
    rw [show zss (oss ++ [os]) = zss oss ++ [zs os] by simp [zss]]
    exact this
  · rw [show (oss ++ [os]).flatten = oss.flatten ++ os by simp]
    refine (hm.seen.alloc o).grown hap.grown ?_
    intro e
    exact own3.ne_ (hm.seen.alloc o) (by decide) (e.trans (ownBlock_len A (q + 1) q c c))
end

set_option maxRecDepth 100000 in
set_option maxHeartbeats 4000000 in
theorem orbits_ok (A : Option Addr) (n l c : Nat) (gl : List (List Nat)) (w : World) (hx : ILL w A l (zss gl)) (hn : n ≤ 9) (hl : gl.length ≤ 6) (hP : PMs n gl) :
    Calls Try.prog 17 #[.int .i64 n, .slice A l c] w fun e w' => ∃ oss B q d, OrbTo n gl n oss ∧ e = .returned (.tuple #[.slice B q d, .int .i64 0]) ∧ ILL w' B q (zss oss) ∧ q ≤ d ∧ Below w.heap.size w w' := by
  obtain ⟨i0, hi0, hz0, hz1, hz2⟩ := info_parts info23
  have HX := hide hx
  have HF := hide (gf_ok hn hl hP)
  have HP := hide hP
  clear hx hP
  have hwf : (Lit.int .i64 (n : Int)).wf = true := by
    simp [Lit.wf, IntKind.min, IntKind.max, IntKind.signed, IntKind.bits]
    omega
  have HWF := hide hwf
  clear hwf
  go_enter Try.func17, Try.ntmps17
  go_wp2_with fail
  refine (gcheck_any A n l c (zss gl) w HX.out HWF.out).mono ?_
  rw [show gf n (zss gl) = 0 from HF.out]
  rintro e w1 ⟨rfl, hb1⟩
  have hs1 := hb1.size
  go_wp2
  go_loopw [7, 20] (fun ov iv wr => ∃ (k q d : Nat) (B : Option Addr) (vs : List Value) (oss : List (List Nat)), ov = .slice B q d ∧ iv = .int .i64 k ∧ k ≤ n ∧ ObSt w wr w1.heap.size n gl B k q d vs oss) (fun _ iv _ => n - (intOf iv).toNat)
  case atStart => exact ⟨0, 0, 0, none, [], [], rfl, rfl, by omega, ⟨OwnV.nil_ _ _, RowsI.nil_ _ _, .nil, rfl, Blk.new _ _ _, hb1.alloc hs1 _⟩⟩
  case round =>
    obtain ⟨k, q, d, B, vs, oss, rfl, rfl, hk, hst⟩ := hrel
    have HST := hide hst
    have hqk : q ≤ k := by rw [← hst.len]; exact hst.orb.len_le
    clear hst
    by_cases hlt : k < n
    · have hk9 : k < 9 := by omega
      have hcell := (HST.out.seen.cell k).trans (seenA_get _ k hk9)
      have hfr := HST.out.seen.frozen k
      by_cases hmem : k ∈ oss.flatten
      · rw [decide_eq_true (mem_zs_nat.2 hmem)] at hcell
        have HN := hide (HST.out.skip hmem)
        clear hmem
        go_wp2
        go_roundw
        case rel => exact ⟨k + 1, q, d, B, vs, oss, rfl, by go_num, by omega, HN.out⟩
        case measure => simp [intOf]; omega
      · rw [decide_eq_false (fun h => hmem (mem_zs_nat.1 h))] at hcell
        have HM := hide hmem
        clear hmem
        go_wp2_with fail
        refine (orbitOf_any A n l c k gl _ (HX.out.below HST.out.below) hn HP.out hlt).mono ?_
        rintro e w2 ⟨os, B', m, d', hio, rfl, ho, hb2⟩
        have hom : os.length = m := by have := ho.len; rwa [zs_length] at this
        have hm9 : m ≤ 9 := by
          rw [← hom]
          exact Nat.le_trans (nodup_length_le n os hio.nodup fun y hy => ((hio.mem y).1 hy).lt HP.out hlt) hn
        have HIO := hide hio
        have HO := hide ho
        have HB2 := hide hb2
        have HOM := hide hom
        clear hio ho hb2 hcell hfr hom
        have hmk := HST.out.mark HB2.out
        go_wp2
        go_loopw [31] (fun jv wr => ∃ j : Nat, j ≤ m ∧ jv = .int .i64 j ∧ MkSt w w2 wr w1.heap.size (oss.flatten ++ os.take j)) (fun jv _ => m - (intOf jv).toNat)
        case atStart => exact ⟨0, Nat.zero_le _, rfl, by simpa using hmk⟩
        case round =>
          clear hmk
          obtain ⟨j, hj, rfl, hmk⟩ := hrel
          by_cases hjm : j < m
          · obtain ⟨ad, rfl, hca⟩ := (hmk.k3.ownI HO.out).il.at_ hjm
            rw [zs_getD] at hca
            have hjo : j < os.length := by rw [HOM.out]; exact hjm
            have hy : os.getD j 0 < n := ((HIO.out.mem _).1 (getD_mem hjo)).lt HP.out hlt
            have HT : Hid (oss.flatten ++ os.take (j + 1) = (oss.flatten ++ os.take j) ++ [os.getD j 0]) := by
              rw [List.take_succ_eq_append_getElem hjo, List.append_assoc, getD_eq hjo]
              exact rfl
            generalize os.getD j 0 = y at *
            have hy9 : y < 9 := by omega
            have hcell := (hmk.seen.cell y).trans (seenA_get _ y hy9)
            have hfr := hmk.seen.frozen y
            have HN := hide (hmk.set_ hs1 y)
            clear hmk
            go_wp2
            go_roundw
            case rel => exact ⟨j + 1, by omega, by go_num, by rw [HT.out]; exact HN.out⟩
            case measure => simp [intOf]; omega
          · have hjm' : os.take j = os := List.take_of_length_le (by rw [HOM.out]; omega)
            rw [hjm'] at hmk
            have HMK := hide hmk
            have hs3 := Nat.le_trans HB2.out.size hmk.size
            have hsw := HST.out.below.size
            clear hmk hjm'
            go_wp2_with (at_builtin; refine wpList_append_val _ rfl _ _ 22 rfl w.heap.size i0 Try.underlying22 hi0 hz0 hz1 hz2 B q d vs rfl (HST.out.own3 HB2.out HMK.out _) ⟨_, 0, none⟩ 1 (.slice B' m d') rfl (by simp [World.cell?_alloc_new]) rfl (by omega) (by simp; omega) ?_; intro A4 c4 w4 hap)
            have hN := HST.out.add HM.out HIO.out HB2.out HO.out HMK.out _ hap
            clear hap
            go_roundw
            case rel => exact ⟨k + 1, q + 1, c4, A4, _, _, by go_num, by go_num, by omega, hN⟩
            case measure => simp [intOf]; omega
    · have hkn : k = n := by omega
      go_wp2
      go_ret2
      exact ⟨oss, B, q, d, by have := HST.out.orb; rwa [hkn] at this, rfl, ILL.of_rows HST.out.own HST.out.rows, HST.out.own.cap, HST.out.below⟩
end Go.Proofs.Ytnpdlfnhpghkmaa
