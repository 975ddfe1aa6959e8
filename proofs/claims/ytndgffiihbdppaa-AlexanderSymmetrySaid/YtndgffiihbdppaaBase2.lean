/- Several texts in one. -/
import Derived.Test.YtndgffiihbdppaaBase1
import Derived.ProofKit
import Derived.SizedLaws
/- Lists of the call's own that grow side by side (round 2's text as a template). -/
namespace Go.Proofs.Ytndgffiihbdppaa
open Go.RowKit
set_option linter.unusedVariables false
set_option linter.unusedSimpArgs false

def zssW (l : List (List Nat)) : List (List Int) := l.map zs
theorem zssW_getD {l : List (List Nat)} {k : Nat} (hk : k < l.length) : (zssW l).getD k [] = zs (l.getD k []) := by
  simp [zssW, List.getD, List.getElem?_eq_getElem hk]
/-- A slice of lists, each in a block of its own. -/
structure WR (w : World) (base : Nat) (Q : Option Addr) (q d : Nat) (vs : List Value) (want : List (List Nat)) : Prop where
  own : OwnV w base Q q d vs
  rows : RowsI w base vs (zssW want)
  apart : ∀ (p p' : Nat) (v v' : Value), p ≠ p' → vs[p]? = some v → vs[p']? = some v' → ∀ b, v.ownBlock = some b → v'.ownBlock ≠ some b
section
variable {w w' : World} {base q d : Nat} {Q : Option Addr} {vs : List Value} {want : List (List Nat)}
theorem WR.nil_ (w : World) (base : Nat) : WR w base none 0 0 [] [] := ⟨OwnV.nil_ _ _, RowsI.nil_ _ _, fun p p' v v' _ h => by simp at h⟩
theorem WR.len (h : WR w base Q q d vs want) : want.length = q := by
  have h1 := h.own.len
  have h2 := h.rows.len
  simp [zssW] at h2
  omega
theorem WR.to (h : WR w base Q q d vs want) (hb : Below w.heap.size w w') : WR w' base Q q d vs want := ⟨h.own.keep (KeepT.below hb), h.rows.keep (KeepT.below hb), h.apart⟩
theorem WR.row (h : WR w base Q q d vs want) {p : Nat} (hp : p < q) : ∃ A n c, vs[p]? = some (.slice A n c) ∧ OwnI w base A n c (zs (want.getD p [])) := by
  have := h.own.len
  obtain ⟨A, n, c, e, ho⟩ := h.rows.row p (by omega)
  rw [zssW_getD (by rw [h.len]; exact hp)] at ho
  exact ⟨A, n, c, e, ho⟩
theorem WR.add (h : WR w base Q q d vs want) (hb : base ≤ w.heap.size) (i : Nat) {Q' : Option Addr} {d' : Nat} {w4 : World}
    (hap : AppendedV ((w.alloc (.cells #[.int .i64 i] 3)).alloc (.cells #[.slice (some ⟨w.heap.size, 0, none⟩) 1 1] 22)) base Q (q + 1) d (vs ++ [.slice (some ⟨w.heap.size, 0, none⟩) 1 1]) Q' d' w4) :
    WR w4 base Q' (q + 1) d' (vs ++ [.slice (some ⟨w.heap.size, 0, none⟩) 1 1]) (want ++ [[i]]) := by
  have ha1 : Below w.heap.size w (w.alloc (.cells #[.int .i64 i] 3)) := (Below.refl _ _).alloc (Nat.le_refl _) _
  have o1 : OwnI (w.alloc (.cells #[.int .i64 i] 3)) base (some ⟨w.heap.size, 0, none⟩) 1 1 (zs [i]) := OwnI.lit w (zs [i]) hb (by simp [zs]) rfl rfl rfl
  have h2 := (h.to ha1).to ((Below.refl _ _).alloc (Nat.le_refl _) (.cells #[.slice (some ⟨w.heap.size, 0, none⟩) 1 1] 22))
  have kk : KeepT 3 ((w.alloc (.cells #[.int .i64 i] 3)).alloc (.cells #[.slice (some ⟨w.heap.size, 0, none⟩) 1 1] 22)) w4 := KeepT.grown hap.grown (fun b hb => h2.own.block b (by rw [← hb]; exact ownBlock_len Q q (q + 1) d d))
  refine ⟨hap.own, ?_, ?_⟩
  · have := (h2.rows.keep kk).snoc (kk.ownI (o1.alloc _))
    rw [show zssW (want ++ [[i]]) = zssW want ++ [zs [i]] by simp [zssW]]
    exact this
  · have hnew : ∀ p v b, p < vs.length → (vs ++ [Value.slice (some ⟨w.heap.size, 0, none⟩) 1 1])[p]? = some v → v.ownBlock = some b → b < w.heap.size := fun p v b hp hv hvb => by
      rw [List.getElem?_append_left hp] at hv
      obtain ⟨A, n, c, e, ho⟩ := h.rows.row p hp
      rw [hv] at e
      injection e with e
      rw [e] at hvb
      exact (ho.lt b hvb).2
    intro p p' v v' hne hv hv' b hvb hvb'
    by_cases hp : p < vs.length
    · by_cases hp' : p' < vs.length
      · rw [List.getElem?_append_left hp] at hv
        rw [List.getElem?_append_left hp'] at hv'
        exact h.apart p p' v v' hne hv hv' b hvb hvb'
      · have hl := hnew p v b hp hv hvb
        have e : p' = vs.length := by
          have := (List.getElem?_eq_some_iff.1 hv').1
          simp at this; omega
        subst e
        simp at hv'
        subst hv'
        simp [Value.ownBlock] at hvb'
        omega
    · have e : p = vs.length := by
        have := (List.getElem?_eq_some_iff.1 hv).1
        simp at this; omega
      subst e
      simp at hv
      subst hv
      have hp' : p' < vs.length := by
        have := (List.getElem?_eq_some_iff.1 hv').1
        simp at this; omega
      have hl := hnew p' v' b hp' hv' hvb'
      simp [Value.ownBlock] at hvb
      omega
theorem WR.put {gQ a m cc c' i : Nat} {R R' : Option Addr} {w2 : World} (h : WR w base (some ⟨gQ, 0, none⟩) q d vs want) (hb : base ≤ w.heap.size) (ha : a < q) (hv : vs[a]? = some (.slice R m cc)) (ho : OwnI w base R m cc (zs (want.getD a [])))
    (hap : Appended (w.alloc (.cells #[.int .i64 i] 3)) base R (m + 1) cc (zs (want.getD a []) ++ [(i : Int)]) R' c' w2) :
    WR (w2.setCell ⟨gQ, a, none⟩ (.slice R' (m + 1) c')) base (some ⟨gQ, 0, none⟩) q d (vs.set a (.slice R' (m + 1) c')) (want.set a (want.getD a [] ++ [i])) := by
  have hvl := h.own.len
  have hwl := h.len
  have ha1 : Below w.heap.size w (w.alloc (.cells #[.int .i64 i] 3)) := (Below.refl _ _).alloc (Nat.le_refl _) _
  have h1 := h.to ha1
  have o1 := ho.alloc (.cells #[.int .i64 i] 3)
  have hrow : (Value.slice R (m + 1) cc).ownBlock = (Value.slice R m cc).ownBlock := ownBlock_len R (m + 1) m cc cc
  have k23 : KeepT 22 (w.alloc (.cells #[.int .i64 i] 3)) w2 := KeepT.grown hap.grown (fun b hb => by
    rw [hrow] at hb
    rcases o1.own.2 with ⟨e, _⟩ | ⟨g, cap, cur, e, _, hh, _⟩
    · rw [e] at hb; cases hb
    · rw [e] at hb
      injection hb with hb
      subst hb
      exact ⟨3, cur, hh, by decide⟩)
  have own2 := h1.own.keep k23
  obtain ⟨curQ, BQ⟩ : ∃ cur, Blk w2 gQ 22 cur := by
    rcases own2.own.2 with ⟨_, h0⟩ | ⟨g, cap, cur, e, _, hh, _⟩
    · omega
    · simp only [Value.slice.injEq, Option.some.injEq, Addr.mk.injEq, and_true, true_and] at e
      obtain ⟨rfl, _⟩ := e
      exact ⟨cur, hh⟩
  have k3 : KeepT 3 w2 (w2.setCell ⟨gQ, a, none⟩ (.slice R' (m + 1) c')) := KeepT.set_ BQ (by decide) a _
  refine ⟨⟨(own2.own.stored a _).1, h.own.small⟩, ⟨by simp [zssW]; omega, fun p hp => ?_⟩, ?_⟩
  · rw [List.length_set] at hp
    by_cases e : p = a
    · subst e
      refine ⟨R', m + 1, c', by simp [hp], ?_⟩
      rw [zssW_getD (by rw [List.length_set]; omega)]
      rw [show (want.set p (want.getD p [] ++ [i])).getD p [] = want.getD p [] ++ [i] by
        have hpw : p < want.length := by omega
        simp [List.getD, List.getElem?_set, hpw]]
      rw [show zs (want.getD p [] ++ [i]) = zs (want.getD p []) ++ [(i : Int)] by simp [zs]]
      exact k3.ownI hap.own
    · obtain ⟨A, n, c, e1, ho1⟩ := h1.row (p := p) (by omega)
      refine ⟨A, n, c, by rw [List.getElem?_set_ne (fun h => e h.symm)]; exact e1, ?_⟩
      rw [zssW_getD (by rw [List.length_set]; omega)]
      rw [show (want.set a (want.getD a [] ++ [i])).getD p [] = want.getD p [] by
        simp only [List.getD, List.getElem?_set]
        rw [if_neg (fun h => e h.symm)]]
      refine k3.ownI (ho1.kept hap.grown ?_)
      rw [hrow]
      cases hA : (Value.slice A n c).ownBlock with
      | none => exact .inl rfl
      | some b => exact .inr (fun e2 => h.apart p a _ _ e e1 hv b hA e2.symm)
  · intro p p' v v' hne hpv hpv' b hb1 hb2
    have hold : ∀ p v b, p ≠ a → (vs.set a (.slice R' (m + 1) c'))[p]? = some v → v.ownBlock = some b → vs[p]? = some v ∧ b < (w.alloc (.cells #[.int .i64 i] 3)).heap.size ∧ some b ≠ (Value.slice R m cc).ownBlock := fun p v b hpa hpv hb => by
      rw [List.getElem?_set_ne (fun h => hpa h.symm)] at hpv
      have hpl := (List.getElem?_eq_some_iff.1 hpv).1
      obtain ⟨A, n, c, e1, ho1⟩ := h1.row (p := p) (by omega)
      rw [hpv] at e1
      injection e1 with e1
      refine ⟨hpv, ?_, fun e => ?_⟩
      · rw [e1] at hb
        exact (ho1.lt b hb).2
      · exact h.apart p a _ _ hpa hpv hv b hb e.symm
    have hself : ∀ v b, (vs.set a (.slice R' (m + 1) c'))[a]? = some v → v.ownBlock = some b → some b = (Value.slice R m cc).ownBlock ∨ b = (w.alloc (.cells #[.int .i64 i] 3)).heap.size := fun v b hv2 hb => by
      have : v = .slice R' (m + 1) c' := by
        simp [List.getElem?_set] at hv2
        exact hv2.2.symm
      rw [this] at hb
      rcases hap.lies with h3 | h3
      · left
        rw [← hrow, ← h3, hb]
      · right
        rw [h3] at hb
        injection hb with hb
        exact hb.symm
    by_cases e : p = a
    · subst e
      obtain ⟨_, h3, h4⟩ := hold p' v' b (fun h => hne h.symm) hpv' hb2
      rcases hself v b hpv hb1 with h5 | h5
      · exact h4 h5
      · omega
    · obtain ⟨h2, h3, h4⟩ := hold p v b e hpv hb1
      by_cases e' : p' = a
      · subst e'
        rcases hself v' b hpv' hb2 with h5 | h5
        · exact h4 h5
        · omega
      · obtain ⟨h6, _, _⟩ := hold p' v' b e' hpv' hb2
        exact h.apart p p' v v' hne h2 h6 b hb1 hb2
end
end Go.Proofs.Ytndgffiihbdppaa
/- A slice of integers that came in as an argument. -/
namespace Go.Proofs.Ytndgffiihbdppaa
set_option linter.unusedVariables false
set_option linter.unusedSimpArgs false
open Go.RowKit

theorem IL.of_row {W : World} {a : Addr} {len cap : Nat} {zs : List Int} (hl : len ≤ cap) (hz : zs.length = cap) (hr : cap * 8 ≤ 140737488351232) (hcell : ∀ i, i < zs.length → W.cell? (a.add i) = some (.int .i64 (zs.getD i 0))) : IL W (some a) len (zs.take len) := by
  refine ⟨by rw [List.length_take]; omega, by omega, fun h0 => ⟨a, rfl, ?_, fun j hj => ?_⟩⟩
  · have := World.block_lt_of_cell? W _ (hcell 0 (by omega))
    rwa [block_of_add] at this
  · rw [hcell j (by omega)]
    simp [List.getD, List.getElem?_take, hj]
end Go.Proofs.Ytndgffiihbdppaa
