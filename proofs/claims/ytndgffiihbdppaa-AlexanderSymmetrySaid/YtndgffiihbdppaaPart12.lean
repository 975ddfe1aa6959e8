/- Several texts in one. -/
import Derived.Test.YtndgffiihbdppaaPart11
import Derived.Test.YtndgffiihbdppaaPart2
import Derived.Test.YtndgffiihbdppaaPart10
import Derived.BigRegion
import Derived.Deep.DeepCutAuto
import Derived.Test.YtndgffiihbdppaaBase1
/- Maps of terms as values: products, sums, polynomials of them; slices of maps. -/
namespace Go.Proofs.Ytndgffiihbdppaa
set_option linter.unusedVariables false
set_option linter.unusedSimpArgs false
open Go.RowKit

/-- Block b is a map of terms that reads as x, with keys within E. -/
def TV (w : World) (b : Nat) (x : LP) (E : Nat) : Prop := ∃ T, MapI w b T ∧ LP.mk T = x ∧ ∀ p ∈ T, p.1.natAbs ≤ E
theorem TV.lt {w : World} {b : Nat} {x : LP} {E : Nat} (h : TV w b x E) : b < w.heap.size := by obtain ⟨T, h, _⟩ := h; exact h.lt
theorem TV.mono {w : World} {b : Nat} {x : LP} {E E' : Nat} (h : TV w b x E) (he : E ≤ E') : TV w b x E' := by
  obtain ⟨T, h1, h2, h3⟩ := h; exact ⟨T, h1, h2, fun p hp => Nat.le_trans (h3 p hp) he⟩
theorem TV.same {w w' : World} {b : Nat} {x : LP} {E : Nat} (h : TV w b x E) (hb : w'.heap[b]? = w.heap[b]?) : TV w' b x E := by
  obtain ⟨T, h1, h2, h3⟩ := h
  refine ⟨T, ⟨?_, h1.nodup⟩, h2, h3⟩
  obtain ⟨D, ⟨es, clock, hbl, r1⟩, r⟩ := h1.dict.own
  exact ⟨⟨D, ⟨es, clock, hb.trans hbl, r1⟩, r⟩⟩
theorem TV.below {w w' : World} {b : Nat} {x : LP} {E : Nat} (h : TV w b x E) (hb : Below w.heap.size w w') : TV w' b x E := h.same (hb.block b h.lt)
/-- A new map that reads as x. -/
def GivesV (w : World) (x : LP) (E : Nat) (e : Ending) (w' : World) : Prop := ∃ b, e = .returned (.map (some b)) ∧ w.heap.size ≤ b ∧ TV w' b x E ∧ Below w.heap.size w w'
theorem GivesT.v {w : World} {x : LP} {E : Nat} {e : Ending} {w' : World} (h : GivesT w x E e w') : GivesV w x E e w' := by
  obtain ⟨b, o, h1, h2, h3, h4, h5, h6⟩ := h
  exact ⟨b, h1, h2, ⟨o, h3, h4, h5⟩, h6⟩
/-- A polynomial as an item. -/
def QP : RdI Po := fun K w us p => ∃ B m d, us = [.int .i64 p.1, .slice B m d] ∧ SLK K w B m d p.2 ∧ (Lit.int .i64 p.1).wf = true
theorem QP_ok : RdOk QP := ⟨fun hk hs ⟨B, m, d, e, h, hw⟩ => ⟨B, m, d, e, h.keep hk hs, hw⟩, fun hk ⟨B, m, d, e, h, hw⟩ => ⟨B, m, d, e, h.mono hk, hw⟩⟩
theorem SPo.rd {w : World} {A : Option Addr} {n c : Nat} {ps : List Po} (h : SPo w A n c ps) : Rd QP 2 w A n c ps :=
  ⟨h.len, h.small, h.nil, h.cap, fun hn => by
    obtain ⟨ad, e, hl, hc⟩ := h.mem hn
    refine ⟨ad, e, hl, hl, fun j hj => ?_⟩
    obtain ⟨B, m, d, h1, h2, h3, h4⟩ := hc j (by rw [← h.len]; exact hj)
    have ed : ps.getD j (0, []) = ps[j] := by simp [List.getD, List.getElem?_eq_getElem hj]
    rw [ed] at h1 h3 h4
    have hsp : ∃ v, w.cell? ⟨(ad.add (j * 2)).block, (ad.add (j * 2)).off, none⟩ = some v ∧ v = .int .i64 ps[j].1 := by
      refine ⟨_, ?_, rfl⟩
      have e2 : w.cell? (ad.add (j * 2)) = some (.int .i64 ps[j].1) := h1
      unfold World.cell? at e2 ⊢
      show (match w.heap[(ad.add (j * 2)).block]? with | some (.cells c _ _) => if (none : Option _).isSome then none else c[(ad.add (j * 2)).off]? | _ => none) = _
      split at e2
      · next hq => rw [hq]; split at e2; · cases e2
                   · exact e2
      · cases e2
    obtain ⟨v, hv, rfl⟩ := hsp
    refine ⟨[.int .i64 ps[j].1, .slice B m d], rfl, h1, fun i hi => ?_, B, m, d, rfl, h3.k, h4⟩
    rcases Nat.lt_or_ge i 1 with hi1 | hi1
    · obtain rfl : i = 0 := by omega
      exact hv
    · obtain rfl : i = 1 := by omega
      exact h2⟩
theorem Rd.spo {w : World} {A : Option Addr} {n c : Nat} {ps : List Po} (h : Rd QP 2 w A n c ps) : SPo w A n c ps :=
  ⟨h.len, h.small, h.nil, h.cap, fun hn => by
    obtain ⟨ad, e, hl, _, hc⟩ := h.mem hn
    refine ⟨ad, e, hl, fun j hj => ?_⟩
    have hj2 : j < ps.length := by rw [h.len]; exact hj
    obtain ⟨us, h1, h0, h2, B, m, d, e3, h3, h4⟩ := hc j hj2
    have ed : ps.getD j (0, []) = ps[j] := by simp [List.getD, List.getElem?_eq_getElem hj2]
    subst e3
    rw [ed]
    exact ⟨B, m, d, h0, h2 1 (by omega), h3.sl, h4⟩⟩
theorem SPP.rd {w : World} {A : Option Addr} {n c : Nat} {pss : List (List Po)} (h : SPP w A n c pss) : Rd (QS QP 2) 1 w A n c pss :=
  ⟨h.len, h.small, h.nil, h.cap, fun hn => by
    obtain ⟨ad, e, hl, hc⟩ := h.mem hn
    refine ⟨ad, e, hl, hl, fun j hj => ?_⟩
    obtain ⟨B, m, d, h1, h2⟩ := hc j (by rw [← h.len]; exact hj)
    have ed : pss.getD j [] = pss[j] := by simp [List.getD, List.getElem?_eq_getElem hj]
    rw [ed] at h2
    refine ⟨[.slice B m d], rfl, by rw [Nat.mul_one]; exact h1, fun i hi => ?_, B, m, d, rfl, h2.rd⟩
    obtain rfl : i = 0 := by omega
    have e2 : w.cell? (ad.add (j * 1)) = some (.slice B m d) := by rw [Nat.mul_one]; exact h1
    show w.cell? ⟨(ad.add (j * 1)).block, (ad.add (j * 1)).off, none⟩ = some (.slice B m d)
    unfold World.cell? at e2 ⊢
    show (match w.heap[(ad.add (j * 1)).block]? with | some (.cells c _ _) => if (none : Option _).isSome then none else c[(ad.add (j * 1)).off]? | _ => none) = _
    split at e2
    · next hq => rw [hq]; split at e2; · cases e2
                 · exact e2
    · cases e2⟩
theorem Rd.spp {w : World} {A : Option Addr} {n c : Nat} {pss : List (List Po)} (h : Rd (QS QP 2) 1 w A n c pss) : SPP w A n c pss :=
  ⟨h.len, h.small, h.nil, h.cap, fun hn => by
    obtain ⟨ad, e, hl, _, hc⟩ := h.mem hn
    refine ⟨ad, e, hl, fun j hj => ?_⟩
    have hj2 : j < pss.length := by rw [h.len]; exact hj
    obtain ⟨us, h1, h0, h2, B, m, d, e3, h3⟩ := hc j hj2
    have ed : pss.getD j [] = pss[j] := by simp [List.getD, List.getElem?_eq_getElem hj2]
    subst e3
    rw [ed]
    rw [Nat.mul_one] at h0
    exact ⟨B, m, d, h0, Rd.spo h3⟩⟩
end Go.Proofs.Ytndgffiihbdppaa
/- Several slices that the call builds side by side: none of them touches what the others hold. -/
namespace Go.Proofs.Ytndgffiihbdppaa
set_option linter.unusedVariables false
set_option linter.unusedSimpArgs false
open Go.RowKit

/-- A slice that the call builds: its own row of cells, and items that are read outside it, in blocks of L. -/
structure BldO {α : Type} (L : Nat → Prop) (Q : RdI α) (e : TypeId) (sz base : Nat) (w : World) (A : Option Addr) (n c : Nat) (vs : List Value) (ys : List α) : Prop where
  own : OwnG e sz w base A n c vs
  len : ys.length = n
  row : ∀ j (hj : j < ys.length), Q (fun b => L b ∧ b < w.heap.size) w ((vs.drop (j * sz)).take sz) ys[j]
section
variable {α : Type} {L L' : Nat → Prop} {Q : RdI α} {e : TypeId} {sz base n c : Nat} {w w' : World} {A : Option Addr} {vs : List Value} {ys : List α}
theorem BldO.start (L : Nat → Prop) (Q : RdI α) (e : TypeId) (sz base : Nat) (w : World) : BldO L Q e sz base w none 0 0 [] [] := ⟨OwnG.nil_ _ _ _ _, rfl, fun j hj => by simp at hj⟩
theorem BldO.to (hQ : RdOk Q) (h : BldO L Q e sz base w A n c vs ys) (hb : Below w.heap.size w w') : BldO L Q e sz base w' A n c vs ys :=
  ⟨h.own.below hb, h.len, fun j hj => hQ.mono (fun b _ hb2 => ⟨hb2.1, Nat.lt_of_lt_of_le hb2.2 hb.size⟩) (hQ.keep ((SameK.below hb).mono fun b hb2 => hb2.2) hb.size (h.row j hj))⟩
/-- Something outside it has changed. -/
theorem BldO.same {K : Nat → Prop} (hQ : RdOk Q) (h : BldO L Q e sz base w A n c vs ys) (hk : SameK K w w') (hs : w.heap.size ≤ w'.heap.size) (hK : ∀ b, b < w.heap.size → L b → K b) (ho : ∀ k, (Value.slice A n c).ownBlock = some k → K k) : BldO L Q e sz base w' A n c vs ys :=
  ⟨h.own.keep hk ho, h.len, fun j hj => hQ.mono (fun b _ hb2 => ⟨hb2.1, Nat.lt_of_lt_of_le hb2.2 hs⟩) (hQ.keep (hk.mono fun b hb2 => hK b hb2.2 hb2.1) hs (h.row j hj))⟩
theorem BldO.relax (hQ : RdOk Q) (h : BldO L Q e sz base w A n c vs ys) (hl : ∀ b, b < w.heap.size → L b → L' b) : BldO L' Q e sz base w A n c vs ys :=
  ⟨h.own, h.len, fun j hj => hQ.mono (fun b _ hb2 => ⟨hl b hb2.2 hb2.1, hb2.2⟩) (h.row j hj)⟩
theorem BldO.add (hQ : RdOk Q) {A9 : Option Addr} {c9 : Nat} {w9 : World} {us : List Value} {y : α} (h : BldO L Q e sz base w A n c vs ys) (hl : us.length = sz)
    (hL : ∀ b, L b → (Value.slice A n c).ownBlock ≠ some b) (hy : Q (fun b => L b ∧ b < w.heap.size) w us y) (happ : AppG e sz w base A (n + 1) c (vs ++ us) A9 c9 w9) :
    BldO L Q e sz base w9 A9 (n + 1) c9 (vs ++ us) (ys ++ [y]) := by
  have hown : (Value.slice A (n + 1) c).ownBlock = (Value.slice A n c).ownBlock := ownBlock_len A (n + 1) n c c
  have hsame : SameK (fun b => L b ∧ b < w.heap.size) w w9 := by
    have := SameK.grown happ.grown
    rw [hown] at this
    exact this.mono fun b hb => ⟨hb.2, hL b hb.1⟩
  have hup : ∀ b, b < w9.heap.size → (L b ∧ b < w.heap.size) → L b ∧ b < w9.heap.size := fun b hb h2 => ⟨h2.1, hb⟩
  have hvl := h.own.len
  refine ⟨happ.own, by simp [h.len], fun j hj => ?_⟩
  have hj2 : j < n + 1 := by simp [h.len] at hj; exact hj
  by_cases hjn : j < n
  · have hj3 : j < ys.length := by rw [h.len]; exact hjn
    have hm : (j + 1) * sz ≤ n * sz := Nat.mul_le_mul_right _ hjn
    rw [Nat.add_mul, Nat.one_mul] at hm
    have e1 : ((vs ++ us).drop (j * sz)).take sz = (vs.drop (j * sz)).take sz := by
      rw [List.drop_append_of_le_length (by omega), List.take_append_of_le_length (by rw [List.length_drop]; omega)]
    have e2 : (ys ++ [y])[j] = ys[j] := List.getElem_append_left hj3
    rw [e1, e2]
    exact hQ.mono hup (hQ.keep hsame happ.grown.size (h.row j hj3))
  · have hjn2 : j = n := by omega
    subst hjn2
    have e1 : ((vs ++ us).drop (j * sz)).take sz = us := by
      rw [List.drop_append, show vs.drop (j * sz) = [] from List.drop_eq_nil_of_le (by omega), hvl, Nat.sub_self, List.drop_zero, List.nil_append, List.take_of_length_le (by omega)]
    have e2 : (ys ++ [y])[j] = y := by rw [List.getElem_append_right (by rw [h.len]; exact Nat.le_refl _)]; simp
    rw [e1, e2]
    exact hQ.mono hup (hQ.keep hsame happ.grown.size hy)
theorem BldO.rdK (hQ : RdOk Q) (hs0 : 0 < sz) {K : Nat → Prop} (hK : ∀ b, b < w.heap.size → L b → K b) (hO : ∀ k, (Value.slice A n c).ownBlock = some k → K k) (h : BldO L Q e sz base w A n c vs ys) : RdS Q sz K w A n c ys := by
  have hvl := h.own.len
  refine ⟨h.len, by have := h.own.small; omega, h.own.nilcap.1, h.own.nilcap.2, fun hn => ?_⟩
  obtain ⟨g, rfl, hgb, hl⟩ := h.own.form hn
  refine ⟨_, rfl, hl, hO g rfl, fun j hj => ⟨(vs.drop (j * sz)).take sz, ?_, ?_, ?_, hQ.mono (fun b hb h2 => hK b hb h2.1) (h.row j hj)⟩⟩
  · have hj2 := h.len
    have hm : (j + 1) * sz ≤ n * sz := Nat.mul_le_mul_right _ (by omega)
    rw [Nat.add_mul, Nat.one_mul] at hm
    rw [List.length_take, List.length_drop]; omega
  · have hj2 := h.len
    have hm : (j + 1) * sz ≤ n * sz := Nat.mul_le_mul_right _ (by omega)
    rw [Nat.add_mul, Nat.one_mul] at hm
    rw [show (⟨g, 0, none⟩ : Addr).add (j * sz) = ⟨g, j * sz, none⟩ by unfold Addr.add; split <;> simp_all, h.own.cellAt (by omega)]
    rw [List.getElem?_take, if_pos hs0, List.getElem?_drop, Nat.add_zero]
  · intro i hi
    have hj2 := h.len
    have hm : (j + 1) * sz ≤ n * sz := Nat.mul_le_mul_right _ (by omega)
    rw [Nat.add_mul, Nat.one_mul] at hm
    rw [show (⟨g, 0, none⟩ : Addr).add (j * sz) = ⟨g, j * sz, none⟩ by unfold Addr.add; split <;> simp_all]
    show w.cell? ⟨g, j * sz + i, none⟩ = _
    rw [h.own.cellAt (by omega), List.getElem?_take, if_pos hi, List.getElem?_drop]
theorem BldO.rd (hQ : RdOk Q) (hs0 : 0 < sz) (h : BldO L Q e sz base w A n c vs ys) : Rd Q sz w A n c ys := h.rdK hQ hs0 (fun b hb _ => hb) (fun k hk => (h.own.lt k hk).2)
end

/-- Block b is none of the blocks O. -/
def Fr (O : List (Option Nat)) (b : Nat) : Prop := ∀ o ∈ O, o ≠ some b
/-- The blocks of O are there, and are different. -/
structure Dis (s : Nat) (O : List (Option Nat)) : Prop where
  lt : ∀ o ∈ O, ∀ k, o = some k → k < s
  pw : O.Pairwise fun a b => ∀ k, a = some k → b ≠ some k
theorem Dis.up {s s' : Nat} {O : List (Option Nat)} (h : Dis s O) (hs : s ≤ s') : Dis s' O := ⟨fun o ho k e => Nat.lt_of_lt_of_le (h.lt o ho k e) hs, h.pw⟩
theorem Fr.mv {s : Nat} {O : List (Option Nat)} {i : Nat} {o o' : Option Nat} {b : Nat} (hn : o' = o ∨ o' = some s) (hi : O[i]? = some o) (hb : b < s) (h : Fr O b) : Fr (O.set i o') b := fun x hx => by
  rcases List.mem_or_eq_of_mem_set hx with h1 | h1
  · exact h x h1
  · subst h1
    rcases hn with h2 | h2
    · subst h2; exact h x (List.mem_of_getElem? hi)
    · subst h2; intro e; injection e with e; omega
theorem Dis.mv {s s' : Nat} {O : List (Option Nat)} {i : Nat} {o o' : Option Nat} (hn : o' = o ∨ o' = some s) (hi : O[i]? = some o) (hs : s ≤ s') (h9 : ∀ k, o' = some k → k < s') (h : Dis s O) : Dis s' (O.set i o') := by
  refine ⟨fun x hx k e => ?_, ?_⟩
  · rcases List.mem_or_eq_of_mem_set hx with h1 | h1
    · exact Nat.lt_of_lt_of_le (h.lt x h1 k e) hs
    · subst h1
      exact h9 k e
  · rcases hn with h2 | h2
    · subst h2
      obtain ⟨hlt, he⟩ := List.getElem?_eq_some_iff.1 hi
      rw [← he, List.set_getElem_self]
      exact h.pw
    · subst h2
      rw [List.pairwise_iff_getElem]
      intro a b ha hb hab k hk
      simp only [List.length_set] at ha hb
      have hp := List.pairwise_iff_getElem.1 h.pw a b ha hb hab k
      rw [List.getElem_set] at hk ⊢
      by_cases e1 : i = a
      · rw [if_pos e1] at hk
        injection hk with hk
        subst hk
        by_cases e2 : i = b
        · omega
        · rw [if_neg e2]
          intro e
          exact absurd (h.lt _ (List.getElem_mem hb) _ e) (Nat.lt_irrefl _)
      · rw [if_neg e1] at hk
        by_cases e2 : i = b
        · rw [if_pos e2]
          intro e; injection e with e
          have := h.lt _ (List.getElem_mem ha) _ hk
          omega
        · rw [if_neg e2]
          exact hp hk
/-- The block of a slice's head. -/
def ob (A : Option Addr) : Option Nat := A.map (·.block)
theorem ob_own (A : Option Addr) (n c : Nat) : (Value.slice A n c).ownBlock = ob A := by cases A <;> rfl
/-- A change of the block o, one of O; what was free of O is free of O'. -/
structure Step (O O' : List (Option Nat)) (w w' : World) (o : Option Nat) : Prop where
  grown : w.grownBy w' o
  mem : o ∈ O
  fr : ∀ b, b < w.heap.size → Fr O b → Fr O' b
  dis : Dis w'.heap.size O'
section
variable {O O' : List (Option Nat)} {w w' : World} {o : Option Nat}
theorem Step.same (h : Step O O' w w' o) : SameK (fun b => Fr O b ∧ b < w.heap.size) w w' := (SameK.grown h.grown).mono fun b hb => ⟨hb.2, hb.1 o h.mem⟩
theorem BldO.step {α : Type} {Q : RdI α} {e : TypeId} {sz base n c : Nat} {A : Option Addr} {vs : List Value} {ys : List α} (hQ : RdOk Q) (h : BldO (Fr O) Q e sz base w A n c vs ys) (hs : Step O O' w w' o) (hne : ∀ k, ob A = some k → o ≠ some k) : BldO (Fr O') Q e sz base w' A n c vs ys := by
  refine BldO.relax (L := fun b => Fr O b ∧ b < w.heap.size) hQ ?_ (fun b _ hb => hs.fr b hb.2 hb.1)
  refine BldO.same (K := fun b => b < w.heap.size ∧ o ≠ some b) hQ (h.relax hQ fun b hl hb => ⟨hb, hl⟩) (SameK.grown hs.grown) hs.grown.size (fun b _ hb => ⟨hb.2, hb.1 o hs.mem⟩) fun k hk => ⟨(h.own.lt k hk).2, hne k (by rw [← ob_own A n c]; exact hk)⟩
theorem BldO.addS {α : Type} {Q : RdI α} {e : TypeId} {sz base n c : Nat} {A A9 : Option Addr} {c9 : Nat} {vs us : List Value} {ys : List α} {y : α} (hQ : RdOk Q) (h : BldO (Fr O) Q e sz base w A n c vs ys) (hs : Step O O' w w' o) (ho : o = ob A) (hl : us.length = sz)
    (hy : Q (fun b => Fr O b ∧ b < w.heap.size) w us y) (happ : AppG e sz w base A (n + 1) c (vs ++ us) A9 c9 w') : BldO (Fr O') Q e sz base w' A9 (n + 1) c9 (vs ++ us) (ys ++ [y]) :=
  ((h.relax (L' := fun b => Fr O b ∧ b < w.heap.size) hQ fun b hl hb => ⟨hb, hl⟩).add hQ hl (fun b hb => by rw [ob_own, ← ho]; exact hb.1 o hs.mem) (hQ.mono (fun b hl hb => ⟨hb, hl⟩) hy) happ).relax hQ fun b _ hb => hs.fr b hb.2 hb.1
theorem RdS.step {α : Type} {Q : RdI α} {sz n c : Nat} {A : Option Addr} {ys : List α} (hQ : RdOk Q) (h : RdS Q sz (fun b => Fr O b ∧ b < w.heap.size) w A n c ys) (hs : Step O O' w w' o) : RdS Q sz (fun b => Fr O' b ∧ b < w'.heap.size) w' A n c ys :=
  (h.keep hQ hs.same hs.grown.size).mono hQ fun b hb h2 => ⟨hs.fr b h2.2 h2.1, hb⟩
theorem SLK.step {n c : Nat} {A : Option Addr} {xs : List Int} (h : SLK (fun b => Fr O b ∧ b < w.heap.size) w A n c xs) (hs : Step O O' w w' o) : SLK (fun b => Fr O' b ∧ b < w'.heap.size) w' A n c xs :=
  (h.keep hs.same hs.grown.size).mono fun b hb h2 => ⟨hs.fr b h2.2 h2.1, hb⟩
theorem Step.blk {g : Nat} {t : TypeId} {cs : Array Value} (hs : Step O O' w w' o) (h : Blk w g t cs) (hg : o ≠ some g) : Blk w' g t cs := (hs.grown.block g h.lt (fun e => hg e.symm)).trans h
/-- append. -/
theorem Step.app {e : TypeId} {sz base i n c : Nat} {A A' : Option Addr} {c' : Nat} {vs : List Value} (hd : Dis w.heap.size O) (hi : O[i]? = some (ob A)) (happ : AppG e sz w base A n c vs A' c' w') : Step O (O.set i (ob A')) w w' (ob A) := by
  have hg := happ.grown
  have hl := happ.lies
  rw [ob_own] at hg hl
  rw [ob_own] at hl
  refine ⟨hg, List.mem_of_getElem? hi, fun b hb h => h.mv hl hi hb, hd.mv hl hi hg.size fun k hk => (happ.own.lt k (by rw [ob_own]; exact hk)).2⟩
theorem Dis.ne {s i j : Nat} {a b : Option Nat} (h : Dis s O) (hi : O[i]? = some a) (hj : O[j]? = some b) (hij : i ≠ j) : ∀ k, b = some k → a ≠ some k := fun k hk => by
  obtain ⟨h1, rfl⟩ := List.getElem?_eq_some_iff.1 hi
  obtain ⟨h2, rfl⟩ := List.getElem?_eq_some_iff.1 hj
  have hp := List.pairwise_iff_getElem.1 h.pw
  rcases Nat.lt_or_gt_of_ne hij with h3 | h3
  · exact fun e => hp i j h1 h2 h3 k e hk
  · exact hp j i h2 h1 h3 k hk
/-- One of the slices is let go: nothing is built in it any more. -/
theorem Fr.drop {i : Nat} {b : Nat} (h : Fr O b) : Fr (O.set i none) b := fun x hx => by
  rcases List.mem_or_eq_of_mem_set hx with h1 | h1
  · exact h x h1
  · subst h1; simp
theorem Dis.drop {s i : Nat} (h : Dis s O) : Dis s (O.set i none) := by
  refine ⟨fun x hx k e => ?_, ?_⟩
  · rcases List.mem_or_eq_of_mem_set hx with h1 | h1
    · exact h.lt x h1 k e
    · subst h1; cases e
  · rw [List.pairwise_iff_getElem]
    intro a b ha hb hab k hk
    simp only [List.length_set] at ha hb
    have hp := List.pairwise_iff_getElem.1 h.pw a b ha hb hab k
    rw [List.getElem_set] at hk ⊢
    by_cases e1 : i = a
    · rw [if_pos e1] at hk; cases hk
    · rw [if_neg e1] at hk
      split
      · simp
      · exact hp hk
theorem Fr.dropped {i : Nat} {s b : Nat} {o : Option Nat} (hd : Dis s O) (hi : O[i]? = some o) (hb : o = some b) : Fr (O.set i none) b := fun x hx => by
  obtain ⟨j, hj, rfl⟩ := List.getElem_of_mem hx
  simp only [List.length_set] at hj
  rw [List.getElem_set]
  split
  · simp
  · next h => exact hd.ne (i := j) (j := i) (by rw [List.getElem?_eq_getElem hj]) hi (fun e => h e.symm) b hb
/-- A new block is taken into O. -/
theorem Fr.fresh {i s b : Nat} (h : Fr O b) (hb : b < s) : Fr (O.set i (some s)) b := fun x hx => by
  rcases List.mem_or_eq_of_mem_set hx with h1 | h1
  · exact h x h1
  · subst h1; intro e; injection e with e; omega
theorem Dis.fresh {i s : Nat} (h : Dis s O) : Dis (s + 1) (O.set i (some s)) := by
  refine ⟨fun x hx k e => ?_, ?_⟩
  · rcases List.mem_or_eq_of_mem_set hx with h1 | h1
    · have := h.lt x h1 k e; omega
    · subst h1; injection e with e; omega
  · rw [List.pairwise_iff_getElem]
    intro a b ha hb hab k hk
    simp only [List.length_set] at ha hb
    have hp := List.pairwise_iff_getElem.1 h.pw a b ha hb hab k
    rw [List.getElem_set] at hk ⊢
    by_cases e1 : i = a
    · rw [if_pos e1] at hk
      injection hk with hk
      subst hk
      by_cases e2 : i = b
      · omega
      · rw [if_neg e2]
        intro e
        exact absurd (h.lt _ (List.getElem_mem hb) _ e) (Nat.lt_irrefl _)
    · rw [if_neg e1] at hk
      split
      · intro e; injection e with e
        have := h.lt _ (List.getElem_mem ha) _ hk
        omega
      · exact hp hk
theorem Fr.above {s b : Nat} (h : Dis s O) (hb : s ≤ b) : Fr O b := fun x hx e => by have := h.lt x hx b e; omega
/-- A store into a block of O. -/
theorem Step.put {g : Nat} (hd : Dis w.heap.size O) (hg : some g ∈ O) (hgr : w.grownBy w' (some g)) : Step O O w w' (some g) := ⟨hgr, hg, fun _ _ h => h, hd.up hgr.size⟩
end
end Go.Proofs.Ytndgffiihbdppaa
/- Package braid: applyLetter. -/
namespace Go.Proofs.Ytndgffiihbdppaa
set_option linter.unusedVariables false
set_option linter.unusedSimpArgs false
open Go.RowKit

theorem chg_below {g : Nat} {w w' : World} (hb : Below w.heap.size w w') : w.grownBy w' (some g) := ⟨hb.os, hb.tape, hb.output, hb.size, fun b h _ => hb.block b h⟩
theorem chg_trans {g : Nat} {w w1 w2 : World} (h1 : w.grownBy w1 (some g)) (h2 : w1.grownBy w2 (some g)) : w.grownBy w2 (some g) :=
  ⟨h2.os.trans h1.os, h2.tape.trans h1.tape, h2.output.trans h1.output, Nat.le_trans h1.size h2.size, fun b h hne => (h2.block b (Nat.lt_of_lt_of_le h h1.size) hne).trans (h1.block b h hne)⟩
theorem chg_set {g i : Nat} {w : World} {v : Value} : w.grownBy (w.setCell ⟨g, i, none⟩ v) (some g) := by
  have h := (Below.refl g w).setCell (p := ⟨g, i, none⟩) (Nat.le_refl _) v
  exact ⟨h.os, h.tape, h.output, h.size, fun b _ hne => Below.heap_setCell w ⟨g, i, none⟩ v b (fun e => hne (by rw [e]))⟩
/-- A row of polynomials. -/
structure RowB (w : World) (g n : Nat) (K : Nat → Prop) (X : Nat → LP) : Prop where
  blk : ∃ cs, Blk w g 36 cs
  at_ : ∀ j, j < n → ∃ B m d, w.cell? ⟨g, j * 2, none⟩ = some (.int .i64 (LP.canon (X j)).1) ∧ w.cell? ⟨g, j * 2 + 1, none⟩ = some (.slice B m d) ∧ SLK K w B m d (LP.canon (X j)).2
theorem RowB.lt {w : World} {g n : Nat} {K : Nat → Prop} {X : Nat → LP} (h : RowB w g n K X) : g < w.heap.size := by
  obtain ⟨cs, hc⟩ := h.blk
  exact hc.lt
theorem RowB.keep {w w' : World} {g n : Nat} {K : Nat → Prop} {X : Nat → LP} (h : RowB w g n K X) (hs : SameK (fun b => b = g ∨ K b) w w') (hz : w.heap.size ≤ w'.heap.size) : RowB w' g n K X := by
  refine ⟨?_, fun j hj => ?_⟩
  · obtain ⟨cs, hc⟩ := h.blk
    exact ⟨cs, (hs g (.inl rfl)).trans hc⟩
  · obtain ⟨B, m, d, h1, h2, h3⟩ := h.at_ j hj
    exact ⟨B, m, d, (hs.cell (a := ⟨g, j * 2, none⟩) (.inl rfl)).trans h1, (hs.cell (a := ⟨g, j * 2 + 1, none⟩) (.inl rfl)).trans h2, h3.keep (hs.mono fun b hb => .inr hb) hz⟩
theorem RowB.mono {w : World} {g n : Nat} {K K' : Nat → Prop} {X : Nat → LP} (h : RowB w g n K X) (hk : ∀ b, b < w.heap.size → K b → K' b) : RowB w g n K' X := by
  refine ⟨h.blk, fun j hj => ?_⟩
  obtain ⟨B, m, d, h1, h2, h3⟩ := h.at_ j hj
  exact ⟨B, m, d, h1, h2, h3.mono hk⟩
theorem SLK.setCell {w : World} {K : Nat → Prop} {B : Option Addr} {m d g i : Nat} {xs : List Int} {v : Value} (h : SLK K w B m d xs) (hg : ¬ K g) : SLK K (w.setCell ⟨g, i, none⟩ v) B m d xs :=
  ⟨h.sl.setCell (fun hn ad e hb => hg (by rw [← hb]; exact h.inK hn ad e)) i v, h.inK⟩
theorem RowB.congr {w : World} {g n : Nat} {K : Nat → Prop} {X Y : Nat → LP} (h : RowB w g n K X) (he : ∀ j, j < n → X j = Y j) : RowB w g n K Y := by
  refine ⟨h.blk, fun j hj => ?_⟩
  rw [← he j hj]
  exact h.at_ j hj
theorem RowB.below {w w' : World} {g n : Nat} {K : Nat → Prop} {X : Nat → LP} (h : RowB w g n K X) (hb : Below w.heap.size w w') : RowB w' g n K X := by
  refine ⟨?_, fun j hj => ?_⟩
  · obtain ⟨cs, hc⟩ := h.blk
    exact ⟨cs, hc.below hb hc.lt⟩
  · obtain ⟨B, m, d, h1, h2, h3⟩ := h.at_ j hj
    exact ⟨B, m, d, (hb.cell (p := ⟨g, j * 2, none⟩) h.lt).trans h1, (hb.cell (p := ⟨g, j * 2 + 1, none⟩) h.lt).trans h2, ⟨h3.sl.below hb, h3.inK⟩⟩
theorem RowB.frozen {w : World} {g n : Nat} {K : Nat → Prop} {X : Nat → LP} (h : RowB w g n K X) (i : Nat) : w.frozen? ⟨g, i, none⟩ = false := by
  obtain ⟨cs, hc⟩ := h.blk
  exact hc.frozen i
theorem RowB.set_ {w : World} {g n k : Nat} {K : Nat → Prop} {X : Nat → LP} {x : LP} {B : Option Addr} {m d : Nat} (h : RowB w g n K X) (hg : ¬ K g) (hk : k < n) (hs : SLK K w B m d (LP.canon x).2) :
    RowB ((w.setCell ⟨g, k * 2, none⟩ (.int .i64 (LP.canon x).1)).setCell ⟨g, k * 2 + 1, none⟩ (.slice B m d)) g n K (fun j => if j = k then x else X j) := by
  obtain ⟨cs, hc⟩ := h.blk
  have hc0 := hc.set_ (k * 2) (.int .i64 (LP.canon x).1)
  have hc1 := hc0.set_ (k * 2 + 1) (.slice B m d)
  obtain ⟨_, _, _, hk0, hk1, _⟩ := h.at_ k hk
  rw [hc.cell] at hk0 hk1
  obtain ⟨z0, _⟩ := Array.getElem?_eq_some_iff.1 hk0
  obtain ⟨z1, _⟩ := Array.getElem?_eq_some_iff.1 hk1
  refine ⟨⟨_, hc1⟩, fun j hj => ?_⟩
  show ∃ B_1 m_1 d_1, _
  by_cases e : j = k
  · subst e
    rw [if_pos rfl]
    refine ⟨B, m, d, ?_, ?_, (hs.setCell hg).setCell hg⟩
    · rw [hc1.cell, Array.getElem?_setIfInBounds, if_neg (by omega), Array.getElem?_setIfInBounds, if_pos rfl, if_pos (by simpa using z0)]
    · rw [hc1.cell, Array.getElem?_setIfInBounds, if_pos rfl, if_pos (by simpa using z1)]
  · rw [if_neg e]
    obtain ⟨B', m', d', h1, h2, h3⟩ := h.at_ j hj
    rw [hc.cell] at h1 h2
    refine ⟨B', m', d', ?_, ?_, (h3.setCell hg).setCell hg⟩
    · rw [hc1.cell, Array.getElem?_setIfInBounds, if_neg (by omega), Array.getElem?_setIfInBounds, if_neg (by omega)]; exact h1
    · rw [hc1.cell, Array.getElem?_setIfInBounds, if_neg (by omega), Array.getElem?_setIfInBounds, if_neg (by omega)]; exact h2
/-- A row times the matrix of a letter. -/
def stepR (x : Int) (X : Nat → LP) : Nat → LP := fun c => if c + 1 = x.natAbs then X c * e00 x + X (c + 1) * e10 x else if c = x.natAbs then X (c - 1) * e01 x + X c * e11 x else X c
theorem e_n1 (x : Int) : LP.N1 (e00 x) 1 2 ∧ LP.N1 (e01 x) 1 2 ∧ LP.N1 (e10 x) 1 2 ∧ LP.N1 (e11 x) 1 2 := by
  have h1 : LP.N1 (1 : LP) 1 2 := LP.N1.one.mono (by omega) (by omega)
  have h0 : LP.N1 (0 : LP) 1 2 := LP.N1.zero.mono (by omega) (by omega)
  have ht : LP.N1 tT 1 1 := LP.N1.term 1 1
  have hi : LP.N1 tI 1 1 := LP.N1.term (-1) 1
  have ht2 := ht.mono (Nat.le_refl _) (show 1 ≤ 2 by omega)
  have hi2 := hi.mono (Nat.le_refl _) (show 1 ≤ 2 by omega)
  have h1t : LP.N1 (1 + -tT) 1 2 := (LP.N1.one.mono (Nat.zero_le _) (Nat.le_refl _)).add ht.neg
  have h1i : LP.N1 (1 + -tI) 1 2 := (LP.N1.one.mono (Nat.zero_le _) (Nat.le_refl _)).add hi.neg
  unfold e00 e01 e10 e11
  refine ⟨?_, ?_, ?_, ?_⟩ <;> split <;> assumption
set_option maxRecDepth 100000 in
set_option maxHeartbeats 8000000 in
theorem apply_any (F : PolyC) (g n : Nat) (K : Nat → Prop) (X : Nat → LP) (x : Int) (E V : Nat) (w : World) (h : RowB w g n K X) (hK : ∀ b, w.heap.size ≤ b → K b) (hg : ¬ K g) (hx : x ≠ 0) (hxn : x.natAbs < n) (hn : n ≤ 6) (hE : E ≤ 16) (hV : V ≤ 20000000) (hN : ∀ j, j < n → LP.N1 (X j) E V) :
    Calls Try.prog 104 #[.slice (some ⟨g, 0, none⟩) n n, .int .i64 x] w fun e w' => e = .returned (.tuple #[]) ∧ RowB w' g n K (stepR x X) ∧ w.grownBy w' (some g) := by
  obtain ⟨m0, m1, m2, m3⟩ := e_n1 x
  have HG := hide (gen_any x w (by omega) (by omega))
  obtain ⟨i, hi⟩ : ∃ i, x.natAbs = i := ⟨_, rfl⟩
  have hi1 : 1 ≤ i := by omega
  obtain ⟨j, rfl⟩ : ∃ j, i = j + 1 := ⟨i - 1, by omega⟩
  rw [hi] at HG hxn
  have HX := hide hi
  have hNj := hN j (by omega)
  have hNi := hN (j + 1) hxn
  have rt : ∀ {a b : LP}, LP.N1 a E V → LP.N1 b 1 2 → LP.N1 (a * b) 17 40000000 := fun ha hb => (ha.mul hb).mono (by omega) (by omega)
  have HS0 := hide (fun (w' : World) (A : Option Addr) (n c : Nat) (B : Option Addr) (m d : Nat) (C : Option Addr) (l e : Nat) (D : Option Addr) (k f : Nat) (h1 : SL w' A n c (LP.canon (X j)).2) (h2 : SL w' B m d (LP.canon (e00 x)).2) (h3 : SL w' C l e (LP.canon (X (j + 1))).2) (h4 : SL w' D k f (LP.canon (e10 x)).2) =>
    sumP_any F (X j) (e00 x) (X (j + 1)) (e10 x) A n c B m d C l e D k f w' h1 h2 h3 h4 (hNj.rt (by omega) (by omega)) (m0.rt (by omega) (by omega)) (hNi.rt (by omega) (by omega)) (m2.rt (by omega) (by omega)) ((rt hNj m0).rt (by omega) (by omega)) ((rt hNi m2).rt (by omega) (by omega)) (((rt hNj m0).add (rt hNi m2)).rt (by omega) (by omega)))
  have HS1 := hide (fun (w' : World) (A : Option Addr) (n c : Nat) (B : Option Addr) (m d : Nat) (C : Option Addr) (l e : Nat) (D : Option Addr) (k f : Nat) (h1 : SL w' A n c (LP.canon (X j)).2) (h2 : SL w' B m d (LP.canon (e01 x)).2) (h3 : SL w' C l e (LP.canon (X (j + 1))).2) (h4 : SL w' D k f (LP.canon (e11 x)).2) =>
    sumP_any F (X j) (e01 x) (X (j + 1)) (e11 x) A n c B m d C l e D k f w' h1 h2 h3 h4 (hNj.rt (by omega) (by omega)) (m1.rt (by omega) (by omega)) (hNi.rt (by omega) (by omega)) (m3.rt (by omega) (by omega)) ((rt hNj m1).rt (by omega) (by omega)) ((rt hNi m3).rt (by omega) (by omega)) (((rt hNj m1).add (rt hNi m3)).rt (by omega) (by omega)))
  clear rt m0 m1 m2 m3 hNj hNi hN
  have HR : Hid (∀ c, c < n → (if c = j + 1 then X j * e01 x + X (j + 1) * e11 x else if c = j then X j * e00 x + X (j + 1) * e10 x else X c) = stepR x X c) := hide (fun c hc => by
    unfold stepR
    rw [HX.out]
    by_cases h1 : c = j + 1
    · subst h1
      rw [if_pos rfl, if_neg (by omega), if_pos rfl, Nat.add_sub_cancel]
    · rw [if_neg h1]
      by_cases h2 : c = j
      · subst h2
        rw [if_pos rfl, if_pos rfl]
      · rw [if_neg h2, if_neg (by omega), if_neg h1])
  have HB := hide (fun w' => block_any x w')
  have H := hide h
  have hgl := h.lt
  obtain ⟨A, an, ac, a0, a1, hA⟩ := h.at_ j (by omega)
  obtain ⟨C, cn, cc, b0, b1, hC⟩ := h.at_ (j + 1) hxn
  have HA := hide hA
  have HC := hide hC
  have HK := hide hK
  have HKG := hide hg
  obtain ⟨la, hla⟩ : ∃ l, (LP.canon (X j)).1 = l := ⟨_, rfl⟩
  obtain ⟨lc, hlc⟩ : ∃ l, (LP.canon (X (j + 1))).1 = l := ⟨_, rfl⟩
  rw [hla] at a0 HS0 HS1
  rw [hlc] at b0 HS0 HS1
  clear h hA hC hK hg hi hla hlc hx hE hV
  go_enter Try.func104, Try.ntmps104
  go_wp2_with fail
  refine HG.out.mono ?_
  rintro e w1 ⟨rfl, hww⟩
  subst hww
  go_upto_region 1 with fail
  go_cut [5, 6, 10, 11, 12, 13, 14, 15, 16, 17, 18] (fun v5 v6 _ _ _ _ _ _ _ _ _ wx => ∃ b5 b6, v5 = .pointer (some ⟨b5, 0, none⟩) ∧ v6 = .pointer (some ⟨b6, 0, none⟩) ∧ Blk wx b5 36 #[.int .i64 la, .slice A an ac] ∧ Blk wx b6 36 #[.int .i64 lc, .slice C cn cc] ∧ w.heap.size ≤ b5 ∧ w.heap.size ≤ b6 ∧ Below w.heap.size w wx)
  case first =>
    have hwj : IntKind.i64.wrap (j : Int) = (j : Int) := by rw [IntKind.wrap_i64]; omega
    have hwj1 : IntKind.i64.wrap ((j : Int) + 1) = (j : Int) + 1 := by rw [IntKind.wrap_i64]; omega
    have z1 : Blk ((w.alloc (.cells #[.int .i64 la, .slice A an ac] 36)).alloc (.cells #[.int .i64 lc, .slice C cn cc] 36)).drew w.heap.size 36 #[.int .i64 la, .slice A an ac] := (Blk.new w 36 #[.int .i64 la, .slice A an ac]).alloc (.cells #[.int .i64 lc, .slice C cn cc] 36)
    have z2 : Blk ((w.alloc (.cells #[.int .i64 lc, .slice C cn cc] 36)).alloc (.cells #[.int .i64 la, .slice A an ac] 36)).drew w.heap.size 36 #[.int .i64 lc, .slice C cn cc] := (Blk.new w 36 #[.int .i64 lc, .slice C cn cc]).alloc (.cells #[.int .i64 la, .slice A an ac] 36)
    have z3 : Blk ((w.alloc (.cells #[.int .i64 la, .slice A an ac] 36)).alloc (.cells #[.int .i64 lc, .slice C cn cc] 36)).drew (w.heap.size + 1) 36 #[.int .i64 lc, .slice C cn cc] := by have h := Blk.new (w.alloc (.cells #[.int .i64 la, .slice A an ac] 36)) 36 #[.int .i64 lc, .slice C cn cc]; rw [World.size_alloc] at h; exact h
    have z4 : Blk ((w.alloc (.cells #[.int .i64 lc, .slice C cn cc] 36)).alloc (.cells #[.int .i64 la, .slice A an ac] 36)).drew (w.heap.size + 1) 36 #[.int .i64 la, .slice A an ac] := by have h := Blk.new (w.alloc (.cells #[.int .i64 lc, .slice C cn cc] 36)) 36 #[.int .i64 la, .slice A an ac]; rw [World.size_alloc] at h; exact h
    have z5 : ∀ o1 o2, Below w.heap.size w ((w.alloc o1).alloc o2).drew := fun o1 o2 => (((Below.refl w.heap.size w).alloc (Nat.le_refl _) o1).alloc (by simp) o2).drew
    have Z1 := hide z1
    have Z2 := hide z2
    have Z3 := hide z3
    have Z4 := hide z4
    have Z5 := hide z5
    clear z1 z2 z3 z4 z5
    go_region
    all_goals go_wp2_with fail
    all_goals first
      | (go_meet; exact ⟨_, _, rfl, rfl, Z1.out, Z3.out, Nat.le_refl _, Nat.le_succ _, Z5.out _ _⟩)
      | (go_meet; exact ⟨_, _, rfl, rfl, Z4.out, Z2.out, Nat.le_succ _, Nat.le_refl _, Z5.out _ _⟩)
  case rest =>
    obtain ⟨b5, b6, rfl, rfl, k5, k6, l5, l6, hb⟩ := hcut
    have K5 := hide k5
    have K6 := hide k6
    have z5 := k5.lt
    have z6 := k6.lt
    replace H := hide (H.out.below hb)
    have HAI : Hid (0 < an → ∀ ad, A = some ad → ad.block ≠ g) := hide (fun hn ad e hb => HKG.out (by rw [← hb]; exact HA.out.inK hn ad e))
    have HCI : Hid (0 < cn → ∀ ad, C = some ad → ad.block ≠ g) := hide (fun hn ad e hb => HKG.out (by rw [← hb]; exact HC.out.inK hn ad e))
    replace HA := hide (HA.out.sl.below hb)
    replace HC := hide (HC.out.sl.below hb)
    have HW := hide hb
    have hsz := hb.size
    clear k5 k6 hb a0 a1 b0 b1
    go_wp2_with fail
    refine (HB.out wc).mono ?_
    rintro e w2 ⟨A0, n0, c0, A1, n1, c1, A2, n2, c2, A3, n3, c3, rfl, s0, s1, s2, s3, i1, i3, hb2⟩
    generalize HL0 : (LP.canon (e00 x)).1 = l0 at *
    generalize HL1 : (LP.canon (e01 x)).1 = l1 at *
    generalize HL2 : (LP.canon (e10 x)).1 = l2 at *
    generalize HL3 : (LP.canon (e11 x)).1 = l3 at *
    clear HL0 HL1 HL2 HL3
    have hb3 : Below w2.heap.size w2 (w2.alloc (.cells #[.int .i64 l0, .slice A0 n0 c0, .int .i64 l1, .slice A1 n1 c1, .int .i64 l2, .slice A2 n2 c2, .int .i64 l3, .slice A3 n3 c3] 120)) := (Below.refl _ _).alloc (Nat.le_refl _) _
    have hb23 := hb2.trans (hb3.mono hb2.size)
    have K7 := hide (Blk.new w2 120 #[.int .i64 l0, .slice A0 n0 c0, .int .i64 l1, .slice A1 n1 c1, .int .i64 l2, .slice A2 n2 c2, .int .i64 l3, .slice A3 n3 c3])
    have S0 := hide (s0.below hb3)
    have S1 := hide (s1.below hb3)
    have S2 := hide (s2.below hb3)
    have S3 := hide (s3.below hb3)
    replace K5 := hide (K5.out.below hb23 z5)
    replace K6 := hide (K6.out.below hb23 z6)
    replace H := hide (H.out.below hb23)
    replace HA := hide (HA.out.below hb23)
    replace HC := hide (HC.out.below hb23)
    replace HW := hide (HW.out.trans (hb23.mono HW.out.size))
    have hsz2 := hb2.size
    have S1I : Hid (0 < n1 → ∀ ad, A1 = some ad → ad.block ≠ g) := hide (fun hn ad e => by have := i1 hn ad e; omega)
    have S3I : Hid (0 < n3 → ∀ ad, A3 = some ad → ad.block ≠ g) := hide (fun hn ad e => by have := i3 hn ad e; omega)
    clear s0 s1 s2 s3 hb2 hb3 hb23 HB i1 i3
    go_upto_region 3 with fail
    obtain ⟨b7, hb7⟩ : ∃ b, w2.heap.size = b := ⟨_, rfl⟩
    obtain ⟨W3, hW3⟩ : ∃ W, w2.alloc (.cells #[.int .i64 l0, .slice A0 n0 c0, .int .i64 l1, .slice A1 n1 c1, .int .i64 l2, .slice A2 n2 c2, .int .i64 l3, .slice A3 n3 c3] 120) = W := ⟨_, rfl⟩
    have z7 : b7 < W3.heap.size := by rw [← hW3, ← hb7]; simp
    rw [hb7] at K7 hsz2 ⊢
    rw [hW3] at K7 K5 K6 H HA HC HW S0 S1 S2 S3 ⊢
    have l7 : w.heap.size ≤ b7 := by omega
    have y5 : b5 < W3.heap.size := by omega
    have y6 : b6 < W3.heap.size := by omega
    clear hb7 hW3 hsz hsz2 z5 z6
    have c50 := K5.out.cell 0
    have c51 := K5.out.cell 1
    have c60 := K6.out.cell 0
    have c61 := K6.out.cell 1
    have c70 := K7.out.cell 0
    have c71 := K7.out.cell 1
    have c74 := K7.out.cell 4
    have c75 := K7.out.cell 5
    simp at c50 c51 c60 c61 c70 c71 c74 c75
    go_wp2_with fail
    refine (HS0.out W3 _ _ _ _ _ _ _ _ _ _ _ _ HA.out S0.out HC.out S2.out).mono ?_
    rintro e w4 ⟨P, pn, pc, rfl, hP, hPn, hb4⟩
    clear c50 c51 c60 c61 c70 c71 c74 c75 HS0
    have HP : Hid (SLK K w4 P pn pc (LP.canon (X j * e00 x + X (j + 1) * e10 x)).2) := hide ⟨hP, fun hn ad e => HK.out _ (by have := hPn hn ad e; have := HW.out.size; omega)⟩
    replace K5 := hide (K5.out.below hb4 y5)
    replace K6 := hide (K6.out.below hb4 y6)
    replace K7 := hide (K7.out.below hb4 z7)
    replace H := hide (H.out.below hb4)
    replace HA := hide (HA.out.below hb4)
    replace HC := hide (HC.out.below hb4)
    replace S1 := hide (S1.out.below hb4)
    replace S3 := hide (S3.out.below hb4)
    replace HW := hide (HW.out.trans (hb4.mono HW.out.size))
    obtain ⟨_, _, _, q0, q1, _⟩ := H.out.at_ j (by omega)
    have f0 := H.out.frozen (j * 2)
    have f1 := H.out.frozen (j * 2 + 1)
    have H5 := hide (H.out.set_ (k := j) HKG.out (by omega) HP.out)
    have HW5 := hide (chg_trans (chg_trans (chg_below (g := g) HW.out) (chg_set (g := g) (i := j * 2) (v := .int .i64 (LP.canon (X j * e00 x + X (j + 1) * e10 x)).1))) (chg_set (g := g) (i := j * 2 + 1) (v := .slice P pn pc)))
    have d5 : b5 ≠ g := by omega
    have d6 : b6 ≠ g := by omega
    have d7 : b7 ≠ g := by omega
    replace K5 := hide ((K5.out.far (p := ⟨g, j * 2, none⟩) d5 (.int .i64 (LP.canon (X j * e00 x + X (j + 1) * e10 x)).1)).far (p := ⟨g, j * 2 + 1, none⟩) d5 (.slice P pn pc))
    replace K6 := hide ((K6.out.far (p := ⟨g, j * 2, none⟩) d6 (.int .i64 (LP.canon (X j * e00 x + X (j + 1) * e10 x)).1)).far (p := ⟨g, j * 2 + 1, none⟩) d6 (.slice P pn pc))
    replace K7 := hide ((K7.out.far (p := ⟨g, j * 2, none⟩) d7 (.int .i64 (LP.canon (X j * e00 x + X (j + 1) * e10 x)).1)).far (p := ⟨g, j * 2 + 1, none⟩) d7 (.slice P pn pc))
    replace HA := hide ((HA.out.setCell HAI.out (j * 2) (.int .i64 (LP.canon (X j * e00 x + X (j + 1) * e10 x)).1)).setCell HAI.out (j * 2 + 1) (.slice P pn pc))
    replace HC := hide ((HC.out.setCell HCI.out (j * 2) (.int .i64 (LP.canon (X j * e00 x + X (j + 1) * e10 x)).1)).setCell HCI.out (j * 2 + 1) (.slice P pn pc))
    replace S1 := hide ((S1.out.setCell S1I.out (j * 2) (.int .i64 (LP.canon (X j * e00 x + X (j + 1) * e10 x)).1)).setCell S1I.out (j * 2 + 1) (.slice P pn pc))
    replace S3 := hide ((S3.out.setCell S3I.out (j * 2) (.int .i64 (LP.canon (X j * e00 x + X (j + 1) * e10 x)).1)).setCell S3I.out (j * 2 + 1) (.slice P pn pc))
    generalize (LP.canon (X j * e00 x + X (j + 1) * e10 x)).1 = lp at *
    clear hP hPn HP H hb4 HAI HCI S1I S3I HW
    go_upto_region 4 with fail
    obtain ⟨W5, hW5⟩ : ∃ W, (w4.setCell ⟨g, j * 2, none⟩ (.int .i64 lp)).setCell ⟨g, j * 2 + 1, none⟩ (.slice P pn pc) = W := ⟨_, rfl⟩
    rw [hW5] at K5 K6 K7 HA HC S1 S3 H5 HW5 ⊢
    clear hW5 f0 f1 q0 q1
    have c50 := K5.out.cell 0
    have c51 := K5.out.cell 1
    have c60 := K6.out.cell 0
    have c61 := K6.out.cell 1
    have c72 := K7.out.cell 2
    have c73 := K7.out.cell 3
    have c76 := K7.out.cell 6
    have c77 := K7.out.cell 7
    simp at c50 c51 c60 c61 c72 c73 c76 c77
    go_wp2_with fail
    refine (HS1.out W5 _ _ _ _ _ _ _ _ _ _ _ _ HA.out S1.out HC.out S3.out).mono ?_
    rintro e w6 ⟨Q, qn, qc, rfl, hQ, hQn, hb6⟩
    clear c50 c51 c60 c61 c72 c73 c76 c77 HS1
    have HQ : Hid (SLK K w6 Q qn qc (LP.canon (X j * e01 x + X (j + 1) * e11 x)).2) := hide ⟨hQ, fun hn ad e => HK.out _ (by have := hQn hn ad e; have := HW5.out.size; omega)⟩
    replace H5 := hide (H5.out.below hb6)
    obtain ⟨_, _, _, q0, q1, _⟩ := H5.out.at_ (j + 1) hxn
    have f0 := H5.out.frozen ((j + 1) * 2)
    have f1 := H5.out.frozen ((j + 1) * 2 + 1)
    have H7 := hide ((H5.out.set_ (k := j + 1) HKG.out hxn HQ.out).congr HR.out)
    have HW7 := hide (chg_trans (chg_trans (chg_trans HW5.out (chg_below (g := g) hb6)) (chg_set (g := g) (i := (j + 1) * 2) (v := .int .i64 (LP.canon (X j * e01 x + X (j + 1) * e11 x)).1))) (chg_set (g := g) (i := (j + 1) * 2 + 1) (v := .slice Q qn qc)))
    generalize (LP.canon (X j * e01 x + X (j + 1) * e11 x)).1 = lq at *
    clear hQ hQn HQ H5 hb6 HW5 HA HC S1 S3 K5 K6 K7
    go_wp2_with fail
    go_returns
    exact ⟨rfl, H7.out, HW7.out⟩
end Go.Proofs.Ytndgffiihbdppaa
/- slices.Clone of a slice of rows of polynomials. -/
namespace Go.Proofs.Ytndgffiihbdppaa
set_option linter.unusedVariables false
set_option linter.unusedSimpArgs false
open Go.RowKit

theorem prows_info : (Try.prog.info? 89).map (fun i => (i.zero, i.size, i.bytes)) = some (some (.slice none 0 0), 1, 24) := by kernel_rfl
theorem polys_info : (Try.prog.info? 36).map (fun i => (i.zero, i.size, i.bytes)) = some (some (.agg #[.int .i64 0, .slice none 0 0]), 2, 32) := by kernel_rfl
/-- The values are slices that read as the rows. -/
structure RowsP (w : World) (vs : List Value) (xss : List (List Po)) : Prop where
  len : vs.length = xss.length
  row : ∀ j, j < xss.length → ∃ B m d, vs[j]? = some (.slice B m d) ∧ SPo w B m d (xss.getD j [])
theorem RowsP.below {w w' : World} {vs : List Value} {xss : List (List Po)} (h : RowsP w vs xss) (hb : Below w.heap.size w w') : RowsP w' vs xss := ⟨h.len, fun j hj => by
  obtain ⟨B, m, d, h1, h2⟩ := h.row j hj
  exact ⟨B, m, d, h1, h2.below hb⟩⟩
theorem RowsP.set_ {w : World} {vs : List Value} {xss : List (List Po)} {j : Nat} {B : Option Addr} {m d : Nat} {r : List Po} (h : RowsP w vs xss) (hs : SPo w B m d r) : RowsP w (vs.set j (.slice B m d)) (xss.set j r) := by
  refine ⟨by simp [h.len], fun i hi => ?_⟩
  rw [List.length_set] at hi
  by_cases e : j = i
  · subst e
    refine ⟨B, m, d, by rw [List.getElem?_set_self (by rw [h.len]; exact hi)], ?_⟩
    have : (xss.set j r).getD j [] = r := by simp [List.getD, List.getElem?_set_self hi]
    rw [this]
    exact hs
  · obtain ⟨B', m', d', h1, h2⟩ := h.row i hi
    refine ⟨B', m', d', by rw [List.getElem?_set_ne e]; exact h1, ?_⟩
    have : (xss.set j r).getD i [] = xss.getD i [] := by simp [List.getD, List.getElem?_set_ne e]
    rw [this]
    exact h2
theorem OwnG.spp {e : TypeId} {w : World} {base n c : Nat} {A : Option Addr} {vs : List Value} {xss : List (List Po)} (h : OwnG e 1 w base A n c vs) (hr : RowsP w vs xss) : SPP w A n c xss := by
  have hl := h.len
  rw [Nat.mul_one] at hl
  refine ⟨by rw [← hr.len]; exact hl, by have := h.small; omega, h.nilcap.1, h.nilcap.2, fun hn => ?_⟩
  obtain ⟨g, rfl, _, hlt⟩ := h.form hn
  refine ⟨⟨g, 0, none⟩, rfl, hlt, fun j hj => ?_⟩
  obtain ⟨B, m, d, h1, h2⟩ := hr.row j (by rw [← hr.len]; omega)
  exact ⟨B, m, d, by rw [show (⟨g, 0, none⟩ : Addr).add j = ⟨g, j, none⟩ by unfold Addr.add; split <;> simp_all, h.cellAt (by omega), h1], h2⟩

end Go.Proofs.Ytndgffiihbdppaa
