/- timbmake.Perm. -/
import Derived.Test.YtbckgomidoelaaaSmall2
import Derived.Test.YtbckgomidoelaaaBase
import Derived.Deep.DeepCutAuto
import Derived.Deep.LoopGhost
namespace Go.Proofs.Ytbckgomidoelaaa
set_option linter.unusedVariables false
set_option linter.unusedSimpArgs false
open Go.RowKit

/-- The state of the loop: what is out, what is left. -/
def MpState (n : Nat) (raws : List Int) (os rs : List Nat) : Prop := (os ++ rs).Perm (List.range n) ∧ (raws = [] → os ++ rs = List.range n)

theorem rest_tail {w8 w9 : World} {B5 g5 m c5 i c9 : Nat} {A9 B10 : Option Addr} {xs ys : List Int} (hr : OwnI w8 B5 (some ⟨g5, 0, none⟩) m c5 xs) (hg : g5 < w8.heap.size)
    (h9 : Appended (w8.alloc (.cells #[] 3)).drew w8.heap.size (some ⟨w8.heap.size, 0, none⟩) (0 + i) 0 ys A9 c9 w9) (hi : i + 1 ≤ m)
    (hB : (if c5 = i + 1 then some (⟨g5, 0, none⟩ : Addr) else some ⟨g5, i + 1, none⟩) = B10) : IL w9 B10 (m - (i + 1)) (xs.drop (i + 1)) := by
  have h1 : OwnI w9 B5 (some ⟨g5, 0, none⟩) m c5 xs := (hr.alloc _).drew.kept h9.grown (.inr (by simp [Value.ownBlock]; omega))
  have h2 := h1.il.tail (k := i + 1) (d := c5) hi h1.cap
  rw [Nat.zero_add, hB] at h2
  exact h2

theorem mp_keep {w w8 w9 w10 : World} {k c8 i j c9 c10 : Nat} {A8 A9 A10 : Option Addr} {xs ys ys' : List Int} (hB8 : Below w.heap.size w w8) (ho : OwnI w8 w.heap.size A8 k c8 xs)
    (h9 : Appended (w8.alloc (.cells #[] 3)).drew w8.heap.size (some ⟨w8.heap.size, 0, none⟩) (0 + i) 0 ys A9 c9 w9) (h10 : Appended w9 w8.heap.size A9 j c9 ys' A10 c10 w10) :
    OwnI w10 w.heap.size A8 k c8 xs ∧ Below w.heap.size w w10 ∧ w.heap.size ≤ w8.heap.size ∧ (∀ g, (Value.slice A8 k c8).ownBlock = some g → g < w8.heap.size) := by
  have hs := hB8.size
  have hlt : ∀ g, (Value.slice A8 k c8).ownBlock = some g → g < w8.heap.size := fun g hg => (ho.lt g hg).2
  have hA9 : ∀ g, (Value.slice A9 j c9).ownBlock = some g → w8.heap.size ≤ g := by
    intro g hg
    rcases h9.lies with e | e
    · rw [ownBlock_len A9 j (0 + i) c9 c9, e] at hg
      simp [Value.ownBlock] at hg
      omega
    · rw [ownBlock_len A9 j (0 + i) c9 c9, e] at hg
      simp at hg
      omega
  have o9 : OwnI w9 w.heap.size A8 k c8 xs := (ho.alloc _).drew.kept h9.grown (by
    rcases hb : (Value.slice A8 k c8).ownBlock with _ | g
    · exact .inl rfl
    · refine .inr ?_
      have := hlt g hb
      simp [Value.ownBlock]; omega)
  have o10 : OwnI w10 w.heap.size A8 k c8 xs := o9.kept h10.grown (by
    rcases hb : (Value.slice A8 k c8).ownBlock with _ | g
    · exact .inl rfl
    · refine .inr fun e => ?_
      have := hlt g hb
      have := hA9 g e.symm
      omega)
  have b9 : Below w.heap.size w w9 := ((hB8.alloc hs _).drew).grown h9.grown (by simp; omega) (by intro g hg; simp [Value.ownBlock] at hg; omega)
  have b10 : Below w.heap.size w w10 := b9.grown h10.grown b9.size (fun g hg => by have := hA9 g hg; omega)
  exact ⟨o10, b10, hs, hlt⟩

theorem mp_state {n : Nat} {raws : List Int} {os rs : List Nat} {i q : Nat} (hi : i < rs.length) (hq : rs.getD i 0 = q) (hraw : raws = [] → i = 0) (h : MpState n raws os rs) :
    MpState n raws (os ++ [q]) (rs.take i ++ rs.drop (i + 1)) := by
  subst hq
  refine ⟨perm_take hi h.1, fun hr => ?_⟩
  obtain rfl := hraw hr
  exact range_take hi (h.2 hr)
theorem mp_rest {w : World} {base m i c m2 : Nat} {A : Option Addr} {rs : List Nat} (h : OwnI w base A (0 + i + (m - (i + 1))) c ([] ++ (zs rs).take i ++ (zs rs).drop (i + 1))) (hm2 : m2 = 0 + i + (m - (i + 1))) :
    OwnI w base A m2 c (zs (rs.take i ++ rs.drop (i + 1))) := by
  rw [List.nil_append, zs_take, zs_drop, zs_append] at h
  rw [hm2]
  exact h
theorem mp_out {w : World} {base k c : Nat} {A : Option Addr} {os : List Nat} {q : Nat} (h : OwnI w base A k c (zs os ++ [(q : Int)])) : OwnI w base A k c (zs (os ++ [q])) := by
  have e : zs os ++ [(q : Int)] = zs (os ++ [q]) := by simp [zs]
  rw [← e]
  exact h
/-- What timbmake.Perm gives. -/
def GivesPerm (n : Nat) (raws : List Int) (w : World) (e : Ending) (w' : World) : Prop := ∃ a : List Nat, isP a ∧ a.length = n ∧ (raws = [] → a = List.range n) ∧ GivesOwn w (zs a) e w'

end Go.Proofs.Ytbckgomidoelaaa
