/- slices.Index, and timbref1.Number. -/
import Derived.Test.YthhcjnmlpojjeaaSmall2
import Derived.Test.YthhcjnmlpojjeaaBase1
import Derived.Test.YthhcjnmlpojjeaaDelete
namespace Go.Proofs.Ythhcjnmlpojjeaa
set_option linter.unusedVariables false
set_option linter.unusedSimpArgs false
open Go.RowKit

theorem idx_sorted : ∀ {us : List Nat} {x : Nat}, Sorted us → x ∈ us → us.idxOf x = cntN us x
  | u :: t, x, hs, hx => by
    have hs' := List.pairwise_cons.1 hs
    by_cases h : x = u
    · subst h
      rw [cntN_self, cnt_zero (fun y hy => Nat.le_of_lt (hs'.1 y hy))]
      simp [List.idxOf_cons]
    · have hxt : x ∈ t := by
        rcases List.mem_cons.1 hx with e | e
        · exact absurd e h
        · exact e
      rw [cntN_cons, if_pos (hs'.1 x hxt), ← idx_sorted hs'.2 hxt, List.idxOf_cons]
      have hb : (u == x) = false := by simp; exact fun e => h e.symm
      rw [hb]
      rfl
theorem idxOf_lt {us : List Nat} {x : Nat} (h : x ∈ us) : us.idxOf x < us.length := List.idxOf_lt_length_iff.2 h

/-- What timbref1.Number's loop knows. -/
structure NumSt (a us : List Nat) (k : Nat) : Prop where
  perm : us.Perm (a.drop k)
  sorted : Sorted us
theorem NumSt.step {a us : List Nat} {k : Nat} (h : NumSt a us k) (hk : k < a.length) :
    a.getD k 0 ∈ us ∧ us.length = a.length - k ∧ us.idxOf (a.getD k 0) = cntLt ((zs a).drop k) (a.getD k 0 : Nat) ∧ NumSt a (us.take (us.idxOf (a.getD k 0)) ++ us.drop (us.idxOf (a.getD k 0) + 1)) (k + 1) := by
  have hd : a.drop k = a.getD k 0 :: a.drop (k + 1) := by rw [getD_eq hk, ← List.drop_eq_getElem_cons hk]
  have hm : a.getD k 0 ∈ us := h.perm.mem_iff.2 (by rw [hd]; exact List.mem_cons_self ..)
  have hi : us.idxOf (a.getD k 0) = cntN us (a.getD k 0) := idx_sorted h.sorted hm
  have hl : us.length = a.length - k := by rw [h.perm.length_eq, List.length_drop]
  refine ⟨hm, hl, ?_, ?_, sorted_pick h.sorted _⟩
  · rw [hi, zs_drop, cntLt_zs, cntN_perm h.perm]
  · have hp := perm_pick (idxOf_lt hm)
    have hx : us.getD (us.idxOf (a.getD k 0)) 0 = a.getD k 0 := by rw [hi]; exact sorted_at h.sorted hm
    rw [hx] at hp
    have h2 := hp.trans h.perm
    rw [hd] at h2
    exact h2.cons_inv

end Go.Proofs.Ythhcjnmlpojjeaa
