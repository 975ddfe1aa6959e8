/- timbref1: After, Back, Times; slices.Clone. -/
import Derived.Test.YtnpdlfnhpghkmaaIndex
import Derived.Test.YtnpdlfnhpghkmaaBase
namespace Go.Proofs.Ytnpdlfnhpghkmaa
set_option linter.unusedVariables false
set_option linter.unusedSimpArgs false
open Go.RowKit

set_option maxHeartbeats 1000000 in
theorem after_any (A B : Option Addr) (n m c d : Nat) (a b : List Nat) (w : World) (ha : IL w A n (zs a)) (hb : IL w B m (zs b)) (hab : ∀ x ∈ a, x < b.length) :
    Calls Try.prog 44 #[.slice A n c, .slice B m d] w (GivesOwn w (zs (comp a b))) := by
  have hna := ha.small
  have hnb := hb.small
  have HL : Hid (a.length = n ∧ b.length = m) := ⟨by have := ha.len; rwa [zs_length] at this, by have := hb.len; rwa [zs_length] at this⟩
  have HAB := hide hab
  clear hab
  obtain ⟨i0, hi0, hz0, hz1, hz2⟩ := info_parts int_info
  go_enter Try.func44, Try.ntmps44
  go_wp2_with (at_make; refine wpList_make_full _ rfl _ _ 23 rfl w.heap.size 3 i0 (.int .i64 0) 1 Try.underlying23 hi0 hz0 hz1 .i64 .i64 _ _ n rfl rfl rfl rfl (by rw [hz2]; omega) (by unfold maxLen; omega) (Nat.le_refl _) ?_; intro w1 hown1 hg1)
  have hB1 : Below w.heap.size w w1 := (Below.refl _ _).grown hg1 (Nat.le_refl _) (by intro k hk; cases hk)
  have hw1 := OwnI.zero (z := #[]) hown1 (by omega)
  clear hown1 hg1
  go_loopw [12] (fun i wr => ∃ k : Nat, k ≤ n ∧ i = .int .i64 k ∧ OwnI wr w.heap.size (some ⟨w.heap.size, 0, none⟩) n n (fillN (fun j => (zs (comp a b)).getD j 0) n k) ∧ Below w.heap.size w wr) (fun i _ => n - (intOf i).toNat)
  case atStart => exact ⟨0, Nat.zero_le _, rfl, by rw [fillN_zero]; exact hw1, hB1⟩
  case round =>
    obtain ⟨k, hk, rfl, hown, hnx⟩ := hrel
    have ha' := ha.below hnx
    have hb' := hb.below hnx
    clear ha hb hw1 hB1
    by_cases hlt : k < n
    · obtain ⟨ad, rfl, hca⟩ := ha'.at_ hlt
      rw [zs_getD] at hca
      have hx : a.getD k 0 < m := by
        have hlk : k < a.length := by have := HL.out; omega
        have := HAB.out (a.getD k 0) (by simp [List.getD, List.getElem?_eq_getElem hlk])
        have := HL.out
        omega
      obtain ⟨bd, rfl, hcb⟩ := hb'.at_ hx
      rw [zs_getD] at hcb
      have HV : Hid ((zs (comp a b)).getD k 0 = ((b.getD (a.getD k 0) 0 : Nat) : Int)) := by
        rw [zs_getD, comp_getD (by have := HL.out; omega)]; exact rfl
      have hcell := hown.cell hlt
      have hfr := hown.frozen k
      have HS := hide (hown.set_ k ((zs (comp a b)).getD k 0))
      clear ha' hb' hown
      generalize a.getD k 0 = x at *
      generalize b.getD x 0 = y at *
      generalize hz : (fillN (fun j => (zs (comp a b)).getD j 0) n k).getD k 0 = z at *
      clear hz
      go_wp2
      go_roundw
      case rel =>
        refine ⟨k + 1, by omega, by go_num, ?_, hnx.setCell (Nat.le_refl _) _⟩
        have := HS.out
        rw [fillN_set (fun j => (zs (comp a b)).getD j 0), HV.out] at this
        exact this
      case measure => simp [intOf]; omega
    · have HF : Hid (fillN (fun j => (zs (comp a b)).getD j 0) n k = zs (comp a b)) := by
        obtain rfl : k = n := by omega
        exact fillN_full (by rw [zs_length, comp_length]; exact HL.out.1) (fun _ _ => rfl)
      go_wp2
      go_ret
      refine ⟨_, _, _, rfl, ?_, hnx⟩
      rw [HF.out] at hown
      exact hown

set_option maxHeartbeats 1000000 in
theorem back_any (A : Option Addr) (n c : Nat) (a : List Nat) (w : World) (ha : IL w A n (zs a)) (pa : isP a) :
    Calls Try.prog 43 #[.slice A n c] w (GivesOwn w (zs (inv a))) := by
  have hna := ha.small
  have HL : Hid (a.length = n) := by have := ha.len; rwa [zs_length] at this
  have HP := hide pa
  clear pa
  obtain ⟨i0, hi0, hz0, hz1, hz2⟩ := info_parts int_info
  go_enter Try.func43, Try.ntmps43
  go_wp2_with (at_make; refine wpList_make_full _ rfl _ _ 23 rfl w.heap.size 3 i0 (.int .i64 0) 1 Try.underlying23 hi0 hz0 hz1 .i64 .i64 _ _ n rfl rfl rfl rfl (by rw [hz2]; omega) (by unfold maxLen; omega) (Nat.le_refl _) ?_; intro w1 hown1 hg1)
  have hB1 : Below w.heap.size w w1 := (Below.refl _ _).grown hg1 (Nat.le_refl _) (by intro k hk; cases hk)
  have hw1 := OwnI.zero (z := #[]) hown1 (by omega)
  clear hown1 hg1
  go_loopw [10] (fun i wr => ∃ k : Nat, k ≤ n ∧ i = .int .i64 k ∧ OwnI wr w.heap.size (some ⟨w.heap.size, 0, none⟩) n n (fillN (fun j => (zs (inv a)).getD j 0) n k) ∧ Below w.heap.size w wr) (fun i _ => n - (intOf i).toNat)
  case atStart => exact ⟨0, Nat.zero_le _, rfl, by rw [fillN_zero]; exact hw1, hB1⟩
  case round =>
    obtain ⟨k, hk, rfl, hown, hnx⟩ := hrel
    have ha' := ha.below hnx
    clear ha hw1 hB1
    by_cases hlt : k < n
    · have hkl : k < a.length := by have := HL.out; omega
      have HI := hide (index_mem A n c a k wr ha' (HP.out.mem hkl))
      have HV : Hid ((zs (inv a)).getD k 0 = ((a.idxOf k : Nat) : Int)) := by
        rw [zs_getD]
        show (((inv a).getD k 0 : Nat) : Int) = _
        simp [inv, List.getD, hkl]
      have hcell := hown.cell hlt
      have hfr := hown.frozen k
      have HS := hide (hown.set_ k ((zs (inv a)).getD k 0))
      clear ha' hown
      generalize hz : (fillN (fun j => (zs (inv a)).getD j 0) n k).getD k 0 = z at *
      clear hz
      generalize a.idxOf k = y at *
      go_wp2_with fail
      refine HI.out.mono ?_
      rintro e w0 ⟨rfl, rfl⟩
      go_wp2
      go_roundw
      case rel =>
        refine ⟨k + 1, by omega, by go_num, ?_, hnx.setCell (Nat.le_refl _) _⟩
        have := HS.out
        rw [fillN_set (fun j => (zs (inv a)).getD j 0), HV.out] at this
        exact this
      case measure => simp [intOf]; omega
    · have HF : Hid (fillN (fun j => (zs (inv a)).getD j 0) n k = zs (inv a)) := by
        obtain rfl : k = n := by omega
        exact fillN_full (by rw [zs_length, inv_length]; exact HL.out) (fun _ _ => rfl)
      go_wp2
      go_ret
      refine ⟨_, _, _, rfl, ?_, hnx⟩
      rw [HF.out] at hown
      exact hown

theorem OwnI.nil {w : World} {base n c : Nat} {A : Option Addr} {xs : List Int} (h : OwnI w base A n c xs) : A = none → n = 0 ∧ c = 0 := by
  rintro rfl
  rcases h.own.2 with ⟨hv, h0⟩ | ⟨g, cap, cur, hv, _⟩
  · injection hv with _ _ hc
    exact ⟨h0, hc⟩
  · injection hv with hv
    cases hv

/-- A permutation of degree k. -/
def PN' (k : Nat) (a : List Nat) : Prop := isP a ∧ a.length = k

set_option maxHeartbeats 1000000 in
theorem clone_any (A : Option Addr) (n c : Nat) (xs : List Int) (w : World) (ha : IL w A n xs) (hc : A = none → n = 0 ∧ c = 0) :
    Calls Try.prog 45 #[.slice A n c] w (GivesOwn w xs) := by
  obtain ⟨i0, hi0, hz0, hz1, hz2⟩ := info_parts int_info
  rcases A with _ | ad
  · obtain ⟨rfl, rfl⟩ := hc rfl
    have hx : xs = [] := List.eq_nil_of_length_eq_zero ha.len
    subst hx
    have hnil := fun (W : World) => Lib.run_eql_slice_nil (P := Try.prog) W 23 3 none 0 0 0 0 Try.underlying23
    go_enter Try.func45, Try.ntmps45
    go_wp2
    go_ret
    exact ⟨none, 0, 0, rfl, OwnI.nil_ _ _, Below.refl _ _⟩
  · have hnil := fun (W : World) => Lib.run_eql_slice_nil (P := Try.prog) W 23 3 (some ad) n c 0 0 Try.underlying23
    have hsm := ha.small
    have hl0 : OwnI (w.alloc (.cells #[] 3)) w.heap.size (some ⟨w.heap.size, 0, none⟩) 0 0 [] := OwnI.lit w [] (Nat.le_refl _) (by simp) rfl rfl rfl
    have ha1 := ha.alloc (.cells #[] 3)
    have hb1 : Below w.heap.size w (w.alloc (.cells #[] 3)) := (Below.refl _ _).alloc (Nat.le_refl _) _
    go_enter Try.func45, Try.ntmps45
    go_wp2_with (at_builtin; refine wpList_append_int _ rfl (.tmp 5) (.tmp 6) 23 rfl w.heap.size i0 Try.underlying23 hi0 hz0 hz1 hz2 (some ⟨w.heap.size, 0, none⟩) 0 0 [] rfl hl0 (some ad) n c xs rfl ha1 (by omega) (by simp) ?_; intro A9 c9 w9 happ)
    go_ret
    have ho := happ.own
    rw [List.nil_append] at ho
    rw [Nat.zero_add] at ho
    refine ⟨_, _, _, rfl, ho, hb1.grown happ.grown (by simp) (fun g hg => by simp [Value.ownBlock] at hg; omega)⟩

/-- The state of the loop of Times. -/
structure TiSt (n : Nat) (T o b : List Nat) (m : Nat) : Prop where
  po : PN' n o
  pb : PN' n b
  val : comp o (powN b m) = T
theorem TiSt.odd {n m : Nat} {T o b : List Nat} (h : TiSt n T o b m) (hm : m % 2 = 1) : TiSt n T (comp o b) (comp b b) (m / 2) := by
  refine ⟨⟨comp_isP h.po.1 h.pb.1 (h.po.2.trans h.pb.2.symm), by rw [comp_length]; exact h.po.2⟩, ⟨comp_isP h.pb.1 h.pb.1 rfl, by rw [comp_length]; exact h.pb.2⟩, ?_⟩
  have := times_step (m := m) h.pb.1 h.po.1 h.po.2 h.pb.2
  rw [if_pos hm] at this
  rw [← this]
  exact h.val
theorem TiSt.even {n m : Nat} {T o b : List Nat} (h : TiSt n T o b m) (hm : ¬ m % 2 = 1) : TiSt n T o (comp b b) (m / 2) := by
  refine ⟨h.po, ⟨comp_isP h.pb.1 h.pb.1 rfl, by rw [comp_length]; exact h.pb.2⟩, ?_⟩
  have := times_step (m := m) h.pb.1 h.po.1 h.po.2 h.pb.2
  rw [if_neg hm] at this
  rw [← this]
  exact h.val
theorem TiSt.done {n : Nat} {T o b : List Nat} (h : TiSt n T o b 0) : o = T := by
  have := h.val
  rw [powN_zero, comp_range (fun x hx => by have := h.po.1.1 x hx; have := h.po.2; have := h.pb.2; omega)] at this
  exact this
theorem after_il (A B : Option Addr) (n m c d : Nat) (a b : List Nat) (w : World) (ha : IL w A n (zs a)) (hb : IL w B m (zs b)) {k : Nat} (pa : PN' k a) (pb : PN' k b) :
    Calls Try.prog 44 #[.slice A n c, .slice B m d] w fun e w' => ∃ (C : Option Addr) (l f : Nat), e = .returned (.slice C l f) ∧ IL w' C l (zs (comp a b)) ∧ Below w.heap.size w w' :=
  (after_any A B n m c d a b w ha hb (fun x hx => by have := pa.1.1 x hx; have := pa.2; have := pb.2; omega)).mono fun _ _ ⟨C, l, f, he, ho, hb⟩ => ⟨C, l, f, he, ho.il, hb⟩

end Go.Proofs.Ytnpdlfnhpghkmaa
