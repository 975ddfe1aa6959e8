/- timbkeep1.PermSigns. -/
import Derived.Test.YtpemnhalilefmaaSort2
import Derived.Test.YtpemnhalilefmaaOrder
import Derived.Test.YtpemnhalilefmaaGroup
namespace Go.Proofs.Ytpemnhalilefmaa
open Go.RowKit

/-- The first j lengths. -/
def lensTo (a : List Nat) (j : Nat) : List Int := zs ((lens a).take j)
theorem lensTo_succ {a : List Nat} {j : Nat} (hj : j < (cycs a).length) : lensTo a (j + 1) = lensTo a j ++ [(((cycs a).getD j []).length : Int)] := by
  unfold lensTo lens
  rw [List.take_succ_eq_append_getElem (by simpa using hj)]
  simp [zs, List.getD, List.getElem?_eq_getElem hj]
theorem lensTo_full {a : List Nat} {j : Nat} (hj : (cycs a).length ≤ j) : lensTo a j = zs (lens a) := by
  unfold lensTo
  rw [List.take_of_length_le (by simpa [lens] using hj)]
theorem row_len {w : World} {a : List Nat} {A : Option Addr} {k m : Nat} (h : IL w A m (((cycs a).map zs).getD k [])) : m = ((cycs a).getD k []).length := by
  have := h.len
  rw [map_zs_getD, zs_length] at this
  exact this.symm
/-- A slice of lengths is made longer. -/
theorem lens_step {w wr w9 : World} {A A9 : Option Addr} {j c c9 : Nat} {a : List Nat} {m : Nat} (hj : j < (cycs a).length) (hm : m = ((cycs a).getD j []).length) (hnx : Below w.heap.size w wr) (hown : OwnI wr w.heap.size A j c (lensTo a j)) {o : Obj}
    (happ : Appended (wr.alloc o) w.heap.size A (j + 1) c (lensTo a j ++ [(m : Int)]) A9 c9 w9) : OwnI w9 w.heap.size A9 (j + 1) c9 (lensTo a (j + 1)) ∧ Below w.heap.size w w9 := by
  refine ⟨by rw [lensTo_succ hj, ← hm]; exact happ.own, ?_⟩
  exact (hnx.alloc hnx.size o).grown happ.grown (Nat.le_trans hnx.size (by simp)) (fun g hg => (hown.lt g (by rw [ownBlock_len A j (j + 1) c c]; exact hg)).1)

set_option maxHeartbeats 8000000 in
theorem permSigns_any (n : Int) (A B : Option Addr) (la lb ca cb : Nat) (ra rb : List Int) (w : World) (ha : IL w A la ra) (hb : IL w B lb rb) :
    Calls Try.prog 9 #[.int .i64 n, .slice A la ca, .slice B lb cb] w fun e w' => e = .returned (.bool true) ∧ Below w.heap.size w w' := by
  obtain ⟨i0, hi0, hz0, hz1, hz2⟩ := info_parts int_info
  obtain ⟨k, hk, hnk⟩ := below_zero (n := n) (m := 10) (by omega)
  have HM : Hid (∀ w, Calls Try.prog 31 #[.int .i64 n, .int .i64 10] w fun e w' => e = .returned (.int .i64 k) ∧ w = w') := fun w => by
    have := mbelow_any n 10 w (by omega) (by omega)
    rw [hnk] at this
    exact this
  clear hnk
  have hk9 : k ≤ 9 := by omega
  have H0 : Hid (Below w.heap.size w w) := Below.refl _ _
  go_enter Try.func9, Try.ntmps9
  go_wp2_with fail
  refine (HM.out _).mono ?_
  rintro e w0 ⟨rfl, rfl⟩
  go_wp2_with fail
  refine (mperm_below k A la ca ra _ ha (by omega)).mono ?_
  rintro e w1 ⟨x, A1, n1, c1, rfl, hx, hcx, px, lx, -, hq⟩
  replace ha := ha.below hq
  replace hb := hb.below hq
  have H1 := hide (H0.out.trans (hq.mono H0.out.size))
  clear hq
  clear ha hcx
  go_wp2_with fail
  refine (mperm_below k B lb cb rb _ hb (by omega)).mono ?_
  rintro e w2 ⟨y, A2, n2, c2, rfl, hy, hcy, py, ly, -, hq⟩
  replace hb := hb.below hq
  replace hx := hx.below hq
  have H2 := hide (H1.out.trans (hq.mono H1.out.size))
  clear hq
  clear hb hcy
  have HX : Hid (PN k x) := ⟨px, lx⟩
  have HY : Hid (PN k y) := ⟨py, ly⟩
  have HX9 : Hid (x.length ≤ 9) := by rw [HX.out.2]; exact hk9
  have HY9 : Hid (y.length ≤ 9) := by rw [HY.out.2]; exact hk9
  have HSG := hide (sgn_comp px py (by rw [lx, ly]))
  have HCJ := hide (conj_law px py (by rw [lx, ly]))
  have HZ : Hid (PN k (comp (comp (inv y) x) y)) := ((PN.inv HY.out).comp HX.out).comp HY.out
  have HSX : Hid (sgnL (cycs x) = 1 ∨ sgnL (cycs x) = -1) := by have := sgnL_one (cycs x) _ (Nat.le_refl _); rwa [List.take_length] at this
  have HSY : Hid (sgnL (cycs y) = 1 ∨ sgnL (cycs y) = -1) := by have := sgnL_one (cycs y) _ (Nat.le_refl _); rwa [List.take_length] at this
  clear px lx py ly
  generalize hsx : sgnL (cycs x) = sx at *
  have HSXE := hide hsx
  clear hsx
  generalize hsy : sgnL (cycs y) = sy at *
  have HSYE := hide hsy
  clear hsy
  go_wp2_with fail
  refine (sign_ok A1 n1 c1 x _ hx HX.out.1 HX9.out).mono ?_
  rw [HSXE.out]
  rintro e w3 ⟨rfl, hq⟩
  replace hx := hx.below hq
  replace hy := hy.below hq
  have H3 := hide (H2.out.trans (hq.mono H2.out.size))
  clear hq
  go_wp2_with fail
  refine (sign_ok A2 n2 c2 y _ hy HY.out.1 HY9.out).mono ?_
  rw [HSYE.out]
  rintro e w4 ⟨rfl, hq⟩
  replace hx := hx.below hq
  replace hy := hy.below hq
  have H4 := hide (H3.out.trans (hq.mono H3.out.size))
  clear hq
  go_wp2_with fail
  refine (kcompose_il k _ _ _ _ _ _ _ _ _ hx hy HX.out HY.out hk9).mono ?_
  rintro e w5 ⟨A5, n5, c5, rfl, hxy, -, hq⟩
  replace hx := hx.below hq
  replace hy := hy.below hq
  have H5 := hide (H4.out.trans (hq.mono H4.out.size))
  clear hq
  go_wp2_with fail
  refine (sign_ok A5 n5 c5 (comp x y) _ hxy (HX.out.comp HY.out).1 (by rw [(HX.out.comp HY.out).2]; exact hk9)).mono ?_
  rw [HSG.out]
  rintro e w6 ⟨rfl, hq⟩
  replace hx := hx.below hq
  replace hy := hy.below hq
  replace hxy := hxy.below hq
  have H6 := hide (H5.out.trans (hq.mono H5.out.size))
  clear hq
  clear hxy
  go_wp2_with fail
  refine ((inverse_ok A2 n2 c2 y _ hy HY.out.1 HY9.out)).mono ?_
  rintro e w7 ⟨A7, n7, c7, rfl, hi, hq⟩
  replace hx := hx.below hq
  replace hy := hy.below hq
  have H7 := hide (H6.out.trans (hq.mono H6.out.size))
  clear hq
  replace hi := hi.il
  go_wp2_with fail
  refine (cycles_il A1 n1 c1 x _ hx HX.out.1 HX9.out).mono ?_
  rintro e w8 ⟨A8, n8, c8, rfl, hkx, hq⟩
  replace hx := hx.below hq
  replace hy := hy.below hq
  replace hi := hi.below hq
  have H8 := hide (H7.out.trans (hq.mono H7.out.size))
  clear hq
  go_wp2_with fail
  refine (kcompose_il k _ _ _ _ _ _ _ _ _ hi hx HY.out.inv HX.out hk9).mono ?_
  rintro e w9 ⟨A9, n9, c9, rfl, hix, -, hq⟩
  replace hx := hx.below hq
  replace hy := hy.below hq
  replace hi := hi.below hq
  replace hkx := hkx.below hq
  have H9 := hide (H8.out.trans (hq.mono H8.out.size))
  clear hq
  go_wp2_with fail
  refine (kcompose_il k _ _ _ _ _ _ _ _ _ hix hy (HY.out.inv.comp HX.out) HY.out hk9).mono ?_
  rintro e w10 ⟨A10, n10, c10, rfl, hzz, -, hq⟩
  replace hx := hx.below hq
  replace hy := hy.below hq
  replace hi := hi.below hq
  replace hkx := hkx.below hq
  replace hix := hix.below hq
  have H10 := hide (H9.out.trans (hq.mono H9.out.size))
  clear hq
  generalize hze : comp (comp (inv y) x) y = z at *
  clear hze
  go_wp2_with fail
  refine (cycles_il A10 n10 c10 z _ hzz HZ.out.1 (by rw [HZ.out.2]; exact hk9)).mono ?_
  rintro e w11 ⟨A11, n11, c11, rfl, hkz, hq⟩
  replace hx := hx.below hq
  replace hy := hy.below hq
  replace hi := hi.below hq
  replace hkx := hkx.below hq
  replace hix := hix.below hq
  replace hzz := hzz.below hq
  have H11 := hide (H10.out.trans (hq.mono H10.out.size))
  clear hq
  clear hx hy hi hix hzz
  have HL8 : Hid ((cycs x).length = n8) := by have := hkx.len; rw [List.length_map] at this; exact this
  have HL11 : Hid ((cycs z).length = n11) := by have := hkz.len; rw [List.length_map] at this; exact this
  have h8 : n8 ≤ 9 := by have h1 := HL8.out; have h2 := cycs_length x; have h3 := HX9.out; omega
  have h11 : n11 ≤ 9 := by have h1 := HL11.out; have h2 := cycs_length z; have h3 := HZ.out.2; omega
  have hp0 : OwnI w11 w11.heap.size none 0 0 (lensTo x 0) := OwnI.nil_ _ _
  go_wp2
  go_loopw [21, 73] (fun pv i wr => ∃ (j c21 : Nat) (A21 : Option Addr), i = .int .i64 j ∧ pv = .slice A21 j c21 ∧ j ≤ n8 ∧ OwnI wr w11.heap.size A21 j c21 (lensTo x j) ∧ Below w11.heap.size w11 wr) (fun _ i _ => n8 - (intOf i).toNat)
  case atStart => exact ⟨0, 0, none, rfl, rfl, Nat.zero_le _, hp0, Below.refl _ _⟩
  case round =>
    obtain ⟨j, c21, A21, rfl, rfl, hj, hp, hnx⟩ := hrel
    clear hp0
    by_cases hlt : j < n8
    · have hkr := hkx.below hnx
      obtain ⟨ad, B8, m8, d8, rfl, hc8, hi8⟩ := hkr.at_ hlt
      have hm8 := row_len hi8
      have HST := hide (fun A9 c9 w9 happ => lens_step (A9 := A9) (c9 := c9) (w9 := w9) (o := .cells #[.int .i64 m8] 3) (by rw [HL8.out]; exact hlt) hm8 hnx hp happ)
      have hsz := hnx.size
      have hm9 : m8 ≤ 9 := by
        have h1 := cycs_row HX.out.1 (k := j) (by rw [HL8.out]; exact hlt)
        have h3 := HX9.out
        omega
      clear hm8 hkr hi8
      go_wp2_with (at_builtin; refine wpList_append_int _ rfl (.tmp 77) (.tmp 80) 22 rfl w11.heap.size i0 Try.underlying22 hi0 hz0 hz1 hz2 A21 j c21 (lensTo x j) rfl (hp.alloc _) (some ⟨_, 0, none⟩) 1 1 [(m8 : Int)] rfl (IL.lit _ [(m8 : Int)] (by simp) rfl rfl) (by omega) (Nat.le_trans hsz (by simp)) ?_; intro A9 c9 w99 happ)
      have hst := HST.out A9 c9 w99 happ
      clear happ hp
      go_roundw
      case rel => exact ⟨j + 1, c9, A9, by go_num, rfl, by omega, hst.1, hst.2⟩
      case measure => simp [intOf]; omega
    · have hjn : j = n8 := by omega
      have HPF : Hid (lensTo x j = zs (lens x)) := lensTo_full (by rw [HL8.out]; omega)
      rw [HPF.out] at hp
      have hkz2 := hkz.below hnx
      have hj9 : j ≤ 9 := by omega
      have HB2 := hide (H11.out.trans (hnx.mono H11.out.size))
      have HPB := hide (Nat.le_trans H11.out.size hnx.size)
      have HPB2 := hide hnx.size
      have HPSZ : Hid (w.heap.size ≤ w11.heap.size) := H11.out.size
      clear hkx hkz hjn hj HPF
      rename World => wq
      have hq0 : OwnI wq wq.heap.size none 0 0 (lensTo z 0) := OwnI.nil_ _ _
      go_wp2
      go_loopw [22, 85] (fun pv i wr => ∃ (l c22 : Nat) (A22 : Option Addr), i = .int .i64 l ∧ pv = .slice A22 l c22 ∧ l ≤ n11 ∧ OwnI wr wq.heap.size A22 l c22 (lensTo z l) ∧ Below wq.heap.size wq wr) (fun _ i _ => n11 - (intOf i).toNat)
      case atStart => exact ⟨0, 0, none, rfl, rfl, Nat.zero_le _, hq0, Below.refl _ _⟩
      case round =>
        obtain ⟨l, c22, A22, rfl, rfl, hl, hq, hny⟩ := hrel
        clear hq0
        by_cases hlt : l < n11
        · have hkr := hkz2.below hny
          obtain ⟨ad, B8, m8, d8, rfl, hc8, hi8⟩ := hkr.at_ hlt
          have hm8 := row_len hi8
          have HST := hide (fun A9 c9 w9 happ => lens_step (A9 := A9) (c9 := c9) (w9 := w9) (o := .cells #[.int .i64 m8] 3) (by rw [HL11.out]; exact hlt) hm8 hny hq happ)
          have hsz := hny.size
          have hm9 : m8 ≤ 9 := by
            have h1 := cycs_row HZ.out.1 (k := l) (by rw [HL11.out]; exact hlt)
            have h3 := HZ.out.2
            omega
          clear hm8 hkr hi8
          go_wp2_with (at_builtin; refine wpList_append_int _ rfl (.tmp 89) (.tmp 92) 22 rfl wq.heap.size i0 Try.underlying22 hi0 hz0 hz1 hz2 A22 l c22 (lensTo z l) rfl (hq.alloc _) (some ⟨_, 0, none⟩) 1 1 [(m8 : Int)] rfl (IL.lit _ [(m8 : Int)] (by simp) rfl rfl) (by omega) (Nat.le_trans hsz (by simp)) ?_; intro A9 c9 w99 happ)
          have hst := HST.out A9 c9 w99 happ
          clear happ hq
          go_roundw
          case rel => exact ⟨l + 1, c9, A9, by go_num, rfl, by omega, hst.1, hst.2⟩
          case measure => simp [intOf]; omega
        · have HQF : Hid (lensTo z l = zs (lens z)) := lensTo_full (by rw [HL11.out]; omega)
          rw [HQF.out] at hq
          have hp2 := hp.below hny
          have hl9 : l ≤ 9 := by omega
          have HW := hide (HB2.out.trans (hny.mono HPB.out))
          have HPLT : Hid (∀ g, (Value.slice A21 j c21).ownBlock = some g → w11.heap.size ≤ g ∧ g < wq.heap.size) := hp.lt
          have HQLT : Hid (∀ g, (Value.slice A22 l c22).ownBlock = some g → wq.heap.size ≤ g) := fun g hg => (hq.lt g hg).1
          clear hkz2 hl HQF hp
          go_wp2_with fail
          refine (sort_any A21 j c21 _ _ _ hp2 hj9).mono ?_
          rintro e w20 ⟨rfl, ps, hps, hperm1, hsort1, hg1⟩
          have hq3 : OwnI w20 wq.heap.size A22 l c22 (zs (lens z)) := hq.kept hg1 (by
            rcases hb : (Value.slice A22 l c22).ownBlock with _ | g
            · exact .inl rfl
            · refine .inr fun e => ?_
              have h1 := HQLT.out g hb
              have h2 := (HPLT.out g e.symm).2
              omega)
          have HW2 := hide (HW.out.grown hg1 HW.out.size (fun g hg => Nat.le_trans HPSZ.out (HPLT.out g hg).1))
          have HP1 := hide (And.intro hperm1 hsort1)
          clear hg1 hperm1 hsort1 hq hp2
          go_wp2_with fail
          refine (sort_any A22 l c22 _ _ _ hq3 hl9).mono ?_
          rintro e w21 ⟨rfl, qs, hqs, hperm2, hsort2, hg2⟩
          have hps3 : OwnI w21 w11.heap.size A21 j c21 ps := hps.kept hg2 (by
            rcases hb : (Value.slice A21 j c21).ownBlock with _ | g
            · exact .inl rfl
            · refine .inr fun e => ?_
              have h1 := (HPLT.out g hb).2
              have h2 := HQLT.out g e.symm
              omega)
          have HW3 := hide (HW2.out.grown hg2 HW2.out.size (fun g hg => Nat.le_trans (Nat.le_trans HPSZ.out HPB2.out) (HQLT.out g hg)))
          have HEQ : Hid (ps = qs) := by
            refine sorted_unique ?_ HP1.out.2 hsort2
            refine HP1.out.1.trans (List.Perm.trans ?_ hperm2.symm)
            exact HCJ.out.map _
          clear hg2 hperm2 hsort2 hps hq3
          have hpi := hps3.il
          have hqi := hqs.il
          clear hps3 hqs
          go_wp2_with fail
          refine (kpermuted_any _).mono ?_
          rintro e w22 ⟨rfl, hb22⟩
          replace hpi := hpi.below hb22
          replace hqi := hqi.below hb22
          have HW4 := hide (HW3.out.trans (hb22.mono HW3.out.size))
          clear hb22
          rcases HSX.out with rfl | rfl <;> rcases HSY.out with rfl | rfl
          all_goals
            go_wp2_with fail
            refine (equal_yes _ _ _ _ _ _ _ _ _ hpi hqi HEQ.out).mono ?_
            rintro e w23 ⟨rfl, hb23⟩
            have HW5 := hide (HW4.out.trans (hb23.mono HW4.out.size))
            clear hb23
            go_wp2
            go_ret
            exact ⟨rfl, HW5.out⟩
end Go.Proofs.Ytpemnhalilefmaa
