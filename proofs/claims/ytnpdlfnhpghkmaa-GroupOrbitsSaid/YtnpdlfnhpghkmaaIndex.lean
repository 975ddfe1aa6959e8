/- slices.Index, and timbref1.Number. -/
import Derived.Test.YtnpdlfnhpghkmaaSmall2
import Derived.Test.YtnpdlfnhpghkmaaBase
import Derived.Test.YtnpdlfnhpghkmaaDelete
namespace Go.Proofs.Ytnpdlfnhpghkmaa
set_option linter.unusedVariables false
set_option linter.unusedSimpArgs false
open Go.RowKit

theorem idxOf_at : ∀ {us : List Nat} {x k : Nat}, (∀ j, j < k → us.getD j 0 ≠ x) → k < us.length → us.getD k 0 = x → us.idxOf x = k
  | u :: t, x, 0, _, _, h => by
    have h' : u = x := h
    subst h'
    simp [List.idxOf_cons]
  | u :: t, x, k + 1, h1, h2, h3 => by
    have h0 : u ≠ x := h1 0 (by omega)
    have ih := idxOf_at (us := t) (x := x) (k := k) (fun j hj => by
      have := h1 (j + 1) (by omega)
      simpa [List.getD] using this) (by simpa using h2) (by simpa [List.getD] using h3)
    have hb : (u == x) = false := by simpa using h0
    rw [List.idxOf_cons, ih, hb]
    rfl
theorem idx_sorted : ∀ {us : List Nat} {x : Nat}, Sorted us → x ∈ us → us.idxOf x = cntN us x
  | u :: t, x, hs, hx => by
    have hs' := List.pairwise_cons.1 hs
    by_cases h : x = u
    · subst h
      rw [cntN_self, cnt_zero (fun y hy => Nat.le_of_lt (hs'.1 y hy))]
      simp [List.idxOf_cons]
    · have hxt : x ∈ t := by
        rcases List.mem_cons.1 hx with e | e
        · exact absurd e h
        · exact e
      rw [cntN_cons, if_pos (hs'.1 x hxt), ← idx_sorted hs'.2 hxt, List.idxOf_cons]
      have hb : (u == x) = false := by simp; exact fun e => h e.symm
      rw [hb]
      rfl
theorem idxOf_lt {us : List Nat} {x : Nat} (h : x ∈ us) : us.idxOf x < us.length := List.idxOf_lt_length_iff.2 h

set_option maxHeartbeats 1000000 in
theorem index_mem (A : Option Addr) (n c : Nat) (us : List Nat) (x : Nat) (w : World) (ha : IL w A n (zs us)) (hx : x ∈ us) :
    Calls Try.prog 46 #[.slice A n c, .int .i64 x] w fun e w' => e = .returned (.int .i64 (us.idxOf x : Nat)) ∧ w = w' := by
  have hna := ha.small
  have HL : Hid (us.length = n) := by have := ha.len; rwa [zs_length] at this
  have HX := hide hx
  clear hx
  go_enter Try.func46, Try.ntmps46
  go_wp2
  go_loop [8] (fun i => ∃ k : Nat, k ≤ n ∧ i = .int .i64 k ∧ Hid (∀ j, j < k → us.getD j 0 ≠ x)) (fun i => n - (intOf i).toNat)
  case atStart => exact ⟨0, Nat.zero_le _, rfl, fun j hj => by omega⟩
  case round =>
    obtain ⟨k, hk, rfl, hne⟩ := hrel
    by_cases hlt : k < n
    · obtain ⟨ad, rfl, hca⟩ := ha.at_ hlt
      rw [zs_getD] at hca
      by_cases he : us.getD k 0 = x
      · have HE : Hid (us.idxOf x = k) := idxOf_at hne.out (by have := HL.out; omega) he
        rw [he] at hca
        clear he
        go_wp2
        go_ret
        rw [HE.out]
        exact ⟨rfl, rfl⟩
      · have HN : Hid (∀ j, j < k + 1 → us.getD j 0 ≠ x) := by
          intro j hj
          rcases Nat.lt_or_ge j k with h1 | h1
          · exact hne.out j h1
          · obtain rfl : j = k := by omega
            exact he
        have hb : ((x : Int) == ((us.getD k 0 : Nat) : Int)) = false := by
          have : ¬ (x : Int) = ((us.getD k 0 : Nat) : Int) := fun e => he (by omega)
          simpa using this
        clear he
        generalize us.getD k 0 = y at *
        go_wp2
        go_round
        case rel => exact ⟨k + 1, by omega, by go_num, HN⟩
        case measure => simp [intOf]; omega
    · exfalso
      obtain ⟨j, hj, hj2⟩ := List.mem_iff_getElem.1 HX.out
      exact hne.out j (by have := HL.out; omega) (by rw [getD_eq hj]; exact hj2)

/-- What timbref1.Number's loop knows. -/
structure NumSt (a us : List Nat) (k : Nat) : Prop where
  perm : us.Perm (a.drop k)
  sorted : Sorted us
theorem NumSt.step {a us : List Nat} {k : Nat} (h : NumSt a us k) (hk : k < a.length) :
    a.getD k 0 ∈ us ∧ us.length = a.length - k ∧ us.idxOf (a.getD k 0) = cntLt ((zs a).drop k) (a.getD k 0 : Nat) ∧ NumSt a (us.take (us.idxOf (a.getD k 0)) ++ us.drop (us.idxOf (a.getD k 0) + 1)) (k + 1) := by
  have hd : a.drop k = a.getD k 0 :: a.drop (k + 1) := by rw [getD_eq hk, ← List.drop_eq_getElem_cons hk]
  have hm : a.getD k 0 ∈ us := h.perm.mem_iff.2 (by rw [hd]; exact List.mem_cons_self ..)
  have hi : us.idxOf (a.getD k 0) = cntN us (a.getD k 0) := idx_sorted h.sorted hm
  have hl : us.length = a.length - k := by rw [h.perm.length_eq, List.length_drop]
  refine ⟨hm, hl, ?_, ?_, sorted_pick h.sorted _⟩
  · rw [hi, zs_drop, cntLt_zs, cntN_perm h.perm]
  · have hp := perm_pick (idxOf_lt hm)
    have hx : us.getD (us.idxOf (a.getD k 0)) 0 = a.getD k 0 := by rw [hi]; exact sorted_at h.sorted hm
    rw [hx] at hp
    have h2 := hp.trans h.perm
    rw [hd] at h2
    exact h2.cons_inv

set_option maxHeartbeats 2000000 in
theorem number_ok (A : Option Addr) (n c : Nat) (a : List Nat) (w : World) (ha : IL w A n (zs a)) (pa : isP a) (h9 : a.length ≤ 9) :
    Calls Try.prog 16 #[.slice A n c] w fun e w' => e = .returned (.int .i64 (rankN a : Nat)) ∧ Below w.heap.size w w' := by
  have HL : Hid (a.length = n) := by have := ha.len; rwa [zs_length] at this
  have hn9 : n ≤ 9 := by have := HL.out; omega
  have HP := hide pa
  have HST0 : Hid (NumSt a (List.range n) 0) := ⟨by rw [List.drop_zero, ← HL.out]; exact pa.perm.symm, range_sorted n⟩
  clear pa h9
  go_enter Try.func16, Try.ntmps16
  go_wp2_with fail
  refine (row_any n _ (by omega)).mono ?_
  rintro e w1 ⟨A1, n1, c1, rfl, hown1, hb1⟩
  have hn1 : n1 = n := by have := hown1.len; rw [zs_length] at this; simp at this; omega
  subst hn1
  have hown1' := hown1.mono (Nat.le_refl _)
  clear hown1
  go_wp2
  go_loopw [3, 4, 13] (fun nv rv i wr => ∃ (k m c4 : Nat) (A4 : Option Addr) (us : List Nat), i = .int .i64 k ∧ nv = .int .i64 (rkGo a k : Nat) ∧ rv = .slice A4 m c4 ∧ k ≤ n1 ∧ OwnI wr w.heap.size A4 m c4 (zs us) ∧ Hid (NumSt a us k) ∧ Below w.heap.size w wr) (fun _ _ i _ => n1 - (intOf i).toNat)
  case atStart => exact ⟨0, n1, c1, A1, List.range n1, rfl, rfl, rfl, Nat.zero_le _, hown1', HST0, hb1⟩
  case round =>
    obtain ⟨k, m, c4, A4, us, rfl, rfl, rfl, hk, hown, hst, hnx⟩ := hrel
    have ha' := ha.below hnx
    clear hown1' hb1
    by_cases hlt : k < n1
    · obtain ⟨ad, rfl, hca⟩ := ha'.at_ hlt
      rw [zs_getD] at hca
      have HX := hide (hst.out.step (by rw [HL.out]; exact hlt))
      have hm : m = n1 - k := by
        have h1 := hown.len
        rw [zs_length] at h1
        have h2 := HX.out.2.1
        rw [HL.out] at h2
        omega
      have HS : Hid (rkGo a (k + 1) = rkGo a k * (n1 - k) + us.idxOf (a.getD k 0)) := by
        rw [rkGo, HL.out, HX.out.2.2.1]; exact rfl
      have hq := rkGo_mul (a := a) (k := k) (by rw [HL.out]; exact hn9) (by rw [HL.out]; exact hlt)
      rw [HL.out] at hq
      have hil : us.idxOf (a.getD k 0) < n1 - k := by
        have h1 := idxOf_lt HX.out.1
        have h2 := HX.out.2.1
        rw [HL.out] at h2
        omega
      rw [← hm] at hq HS
      rw [← hm] at hil
      have hp0 : (0 : Int) ≤ (rkGo a k : Nat) * (m : Int) := by rw [← Int.natCast_mul]; omega
      have hp1 : (rkGo a k : Nat) * (m : Int) ≤ 362880 := by rw [← Int.natCast_mul]; omega
      have HM : Hid (((rkGo a k * m : Nat) : Int) = (rkGo a k : Nat) * (m : Int)) := Int.natCast_mul _ _
      have HI := hide (index_mem A4 m c4 us (a.getD k 0) wr hown.il HX.out.1)
      have hm9 : m ≤ 9 := by omega
      obtain ⟨g4, rfl, hg4, _⟩ := hown.form (by omega)
      have HD := hide (delete_any w.heap.size g4 m c4 (us.idxOf (a.getD k 0)) (zs us) wr hown hil)
      have HNX : Hid (NumSt a (us.take (us.idxOf (a.getD k 0)) ++ us.drop (us.idxOf (a.getD k 0) + 1)) (k + 1)) := HX.out.2.2.2
      clear hq hm hown ha' hst HX
      generalize us.idxOf (a.getD k 0) = i at *
      generalize a.getD k 0 = x at *
      generalize rkGo a k = r at *
      go_wp2_with fail
      refine HI.out.mono ?_
      rintro e w0 ⟨rfl, rfl⟩
      go_wp2_with fail
      refine HD.out.mono ?_
      rintro e w2 ⟨rfl, hown2, hg2⟩
      have hown2' : OwnI w2 w.heap.size (some ⟨g4, 0, none⟩) (m - 1) c4 (zs (us.take i ++ us.drop (i + 1))) := by
        have h1 := hown2
        unfold without at h1
        rw [zs_take, zs_drop, zs_append] at h1
        exact h1
      have hb2 := hnx.grown hg2 hnx.size (fun g hg => by injection hg with hg; omega)
      clear hown2 hg2
      go_wp2
      go_roundw
      case rel =>
        exact ⟨k + 1, m - 1, c4, _, _, by go_num, by rw [HS.out]; have := HM.out; rw [show ((r * m + i : Nat) : Int) = ((r * m : Nat) : Int) + (i : Int) from by omega, this], rfl, by omega, hown2', HNX, hb2⟩
      case measure => simp [intOf]; omega
    · have HF : Hid (rkGo a k = rankN a) := by
        unfold rankN
        rw [HL.out, show k = n1 from by omega]; exact rfl
      generalize rkGo a k = r at *
      go_wp2
      go_ret
      rw [HF.out]
      exact ⟨rfl, hnx⟩
end Go.Proofs.Ytnpdlfnhpghkmaa
