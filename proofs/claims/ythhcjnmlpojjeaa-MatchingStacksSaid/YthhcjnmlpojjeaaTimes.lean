/- timbref1: After, Back, Times; slices.Clone. -/
import Derived.Test.YthhcjnmlpojjeaaIndex
import Derived.Test.YthhcjnmlpojjeaaBase1
namespace Go.Proofs.Ythhcjnmlpojjeaa
set_option linter.unusedVariables false
set_option linter.unusedSimpArgs false
open Go.RowKit

theorem OwnI.nil {w : World} {base n c : Nat} {A : Option Addr} {xs : List Int} (h : OwnI w base A n c xs) : A = none → n = 0 ∧ c = 0 := by
  rintro rfl
  rcases h.own.2 with ⟨hv, h0⟩ | ⟨g, cap, cur, hv, _⟩
  · injection hv with _ _ hc
    exact ⟨h0, hc⟩
  · injection hv with hv
    cases hv

/-- A permutation of degree k. -/
def PN' (k : Nat) (a : List Nat) : Prop := isP a ∧ a.length = k

set_option maxHeartbeats 1000000 in
theorem clone_any (A : Option Addr) (n c : Nat) (xs : List Int) (w : World) (ha : IL w A n xs) (hc : A = none → n = 0 ∧ c = 0) :
    Calls Try.prog 41 #[.slice A n c] w (GivesOwn w xs) := by
  obtain ⟨i0, hi0, hz0, hz1, hz2⟩ := info_parts int_info
  rcases A with _ | ad
  · obtain ⟨rfl, rfl⟩ := hc rfl
    have hx : xs = [] := List.eq_nil_of_length_eq_zero ha.len
    subst hx
    have hnil := fun (W : World) => Lib.run_eql_slice_nil (P := Try.prog) W 22 3 none 0 0 0 0 Try.underlying22
    go_enter Try.func41, Try.ntmps41
    go_wp2
    go_ret
    exact ⟨none, 0, 0, rfl, OwnI.nil_ _ _, Below.refl _ _⟩
  · have hnil := fun (W : World) => Lib.run_eql_slice_nil (P := Try.prog) W 22 3 (some ad) n c 0 0 Try.underlying22
    have hsm := ha.small
    have hl0 : OwnI (w.alloc (.cells #[] 3)) w.heap.size (some ⟨w.heap.size, 0, none⟩) 0 0 [] := OwnI.lit w [] (Nat.le_refl _) (by simp) rfl rfl rfl
    have ha1 := ha.alloc (.cells #[] 3)
    have hb1 : Below w.heap.size w (w.alloc (.cells #[] 3)) := (Below.refl _ _).alloc (Nat.le_refl _) _
    go_enter Try.func41, Try.ntmps41
    go_wp2_with (at_builtin; refine wpList_append_int _ rfl (.tmp 5) (.tmp 6) 22 rfl w.heap.size i0 Try.underlying22 hi0 hz0 hz1 hz2 (some ⟨w.heap.size, 0, none⟩) 0 0 [] rfl hl0 (some ad) n c xs rfl ha1 (by omega) (by simp) ?_; intro A9 c9 w9 happ)
    go_ret
    have ho := happ.own
    rw [List.nil_append] at ho
    rw [Nat.zero_add] at ho
    refine ⟨_, _, _, rfl, ho, hb1.grown happ.grown (by simp) (fun g hg => by simp [Value.ownBlock] at hg; omega)⟩

/-- The state of the loop of Times. -/
structure TiSt (n : Nat) (T o b : List Nat) (m : Nat) : Prop where
  po : PN' n o
  pb : PN' n b
  val : comp o (powN b m) = T
theorem TiSt.odd {n m : Nat} {T o b : List Nat} (h : TiSt n T o b m) (hm : m % 2 = 1) : TiSt n T (comp o b) (comp b b) (m / 2) := by
  refine ⟨⟨comp_isP h.po.1 h.pb.1 (h.po.2.trans h.pb.2.symm), by rw [comp_length]; exact h.po.2⟩, ⟨comp_isP h.pb.1 h.pb.1 rfl, by rw [comp_length]; exact h.pb.2⟩, ?_⟩
  have := times_step (m := m) h.pb.1 h.po.1 h.po.2 h.pb.2
  rw [if_pos hm] at this
  rw [← this]
  exact h.val
theorem TiSt.even {n m : Nat} {T o b : List Nat} (h : TiSt n T o b m) (hm : ¬ m % 2 = 1) : TiSt n T o (comp b b) (m / 2) := by
  refine ⟨h.po, ⟨comp_isP h.pb.1 h.pb.1 rfl, by rw [comp_length]; exact h.pb.2⟩, ?_⟩
  have := times_step (m := m) h.pb.1 h.po.1 h.po.2 h.pb.2
  rw [if_neg hm] at this
  rw [← this]
  exact h.val
end Go.Proofs.Ythhcjnmlpojjeaa
