/- Maps of terms as values: products, sums, polynomials of them; slices of maps. -/
import Derived.Test.YtgmjighgncpefaaTpo
import Derived.Test.YtgmjighgncpefaaTml
import Derived.Test.YtgmjighgncpefaaRd
import Derived.Test.YtgmjighgncpefaaN1
import Derived.Test.YtgmjighgncpefaaSpl
namespace Go.Proofs.Ytgmjighgncpefaa
set_option linter.unusedVariables false
set_option linter.unusedSimpArgs false
open Go.RowKit

/-- Block b is a map of terms that reads as x, with keys within E. -/
def TV (w : World) (b : Nat) (x : LP) (E : Nat) : Prop := ∃ T, MapI w b T ∧ LP.mk T = x ∧ ∀ p ∈ T, p.1.natAbs ≤ E
theorem TV.lt {w : World} {b : Nat} {x : LP} {E : Nat} (h : TV w b x E) : b < w.heap.size := by obtain ⟨T, h, _⟩ := h; exact h.lt
theorem TV.mono {w : World} {b : Nat} {x : LP} {E E' : Nat} (h : TV w b x E) (he : E ≤ E') : TV w b x E' := by
  obtain ⟨T, h1, h2, h3⟩ := h; exact ⟨T, h1, h2, fun p hp => Nat.le_trans (h3 p hp) he⟩
theorem TV.same {w w' : World} {b : Nat} {x : LP} {E : Nat} (h : TV w b x E) (hb : w'.heap[b]? = w.heap[b]?) : TV w' b x E := by
  obtain ⟨T, h1, h2, h3⟩ := h
  refine ⟨T, ⟨?_, h1.nodup⟩, h2, h3⟩
  obtain ⟨D, ⟨es, clock, hbl, r1⟩, r⟩ := h1.dict.own
  exact ⟨⟨D, ⟨es, clock, hb.trans hbl, r1⟩, r⟩⟩
theorem TV.below {w w' : World} {b : Nat} {x : LP} {E : Nat} (h : TV w b x E) (hb : Below w.heap.size w w') : TV w' b x E := h.same (hb.block b h.lt)
theorem TV.ne_cells {w : World} {b g : Nat} {x : LP} {E : Nat} {cs : Array Value} {t : TypeId} {fr : Nat × Nat} (h : TV w b x E) (hg : w.heap[g]? = some (.cells cs t fr)) : b ≠ g := by
  obtain ⟨T, h1, _, _⟩ := h
  obtain ⟨D, ⟨es, clock, hbl, r1⟩, r⟩ := h1.dict.own
  rintro rfl
  rw [hbl] at hg
  cases hg
/-- A new map that reads as x. -/
def GivesV (w : World) (x : LP) (E : Nat) (e : Ending) (w' : World) : Prop := ∃ b, e = .returned (.map (some b)) ∧ w.heap.size ≤ b ∧ TV w' b x E ∧ Below w.heap.size w w'
theorem GivesT.v {w : World} {x : LP} {E : Nat} {e : Ending} {w' : World} (h : GivesT w x E e w') : GivesV w x E e w' := by
  obtain ⟨b, o, h1, h2, h3, h4, h5, h6⟩ := h
  exact ⟨b, h1, h2, ⟨o, h3, h4, h5⟩, h6⟩
def CB (x : LP) (V : Nat) : Prop := ∀ k, (LP.co x k).natAbs ≤ V
theorem TV.vals {w : World} {b : Nat} {T : List Tm} (h : MapI w b T) {V : Nat} (hc : CB (LP.mk T) V) : ∀ p ∈ T, p.2.natAbs ≤ V := fun p hp => by
  have h2 := hc p.1
  rw [LP.co_mk, h.val (x := p.1) (c := p.2) hp] at h2
  exact h2
theorem tv_mul {w : World} {a b : Nat} {x y : LP} {Ea Eb Va Vb : Nat} (hx : TV w a x Ea) (hy : TV w b y Eb) (hcx : CB x Va) (hcy : CB y Vb) (hE : Ea + Eb ≤ 400000) (hV : (2 * Ea + 1) * (Va * Vb) ≤ 4000000000000000000) :
    Calls Try.prog 29 #[.map (some a), .map (some b)] w (GivesV w (x * y) (Ea + Eb)) := by
  obtain ⟨S, hs, rfl, hsk⟩ := hx
  obtain ⟨T, ht, rfl, htk⟩ := hy
  refine (tmul_any a b S T Ea Eb (Ea + Eb) Va Vb (Nat.le_refl _) hE (Nat.le_trans (Nat.mul_le_mul_right _ (nodup_leT hs.nodup hsk)) hV) w hs ht hsk htk (TV.vals hs hcx) (TV.vals ht hcy)).mono fun e w' h => h.v
theorem tv_plus {w : World} {a b : Nat} {x y : LP} {E : Nat} (hx : TV w a x E) (hy : TV w b y E) (hcx : CB x 4000000000000000000) (hcy : CB y 4000000000000000000) (hE : E ≤ 400000) :
    Calls Try.prog 30 #[.map (some a), .map (some b), .int .i64 1] w (GivesV w (x + y) E) := by
  obtain ⟨S, hs, rfl, hsk⟩ := hx
  obtain ⟨T, ht, rfl, htk⟩ := hy
  refine (plus_any a b S T 1 (.inl rfl) E hE w hs ht hsk htk (TV.vals hs hcx) (TV.vals ht hcy)).mono fun e w' h => ?_
  rw [LP.term_one, CR.one_mul] at h
  exact h.v
theorem tv_poly {w : World} {b : Nat} {x : LP} {E : Nat} (hx : TV w b x E) (hE : E ≤ 400000) : Calls Try.prog 12 #[.map (some b)] w (GivesP w (LP.canon x).1 (LP.canon x).2) := by
  obtain ⟨T, ht, rfl, htk⟩ := hx
  exact tpoly_any b T E hE w ht htk

/-- A map as an item. -/
def QT (E : Nat) : RdI LP := fun K w us x => ∃ b, us = [.map (some b)] ∧ K b ∧ TV w b x E
theorem QT_ok (E : Nat) : RdOk (QT E) := ⟨fun hk hs ⟨b, e, hb, h⟩ => ⟨b, e, hb, h.same (hk b hb)⟩, fun hk ⟨b, e, hb, h⟩ => ⟨b, e, hk b h.lt hb, h⟩⟩
/-- A polynomial as an item. -/
def QP : RdI Po := fun K w us p => ∃ B m d, us = [.int .i64 p.1, .slice B m d] ∧ SLK K w B m d p.2 ∧ (Lit.int .i64 p.1).wf = true
theorem QP_ok : RdOk QP := ⟨fun hk hs ⟨B, m, d, e, h, hw⟩ => ⟨B, m, d, e, h.keep hk hs, hw⟩, fun hk ⟨B, m, d, e, h, hw⟩ => ⟨B, m, d, e, h.mono hk, hw⟩⟩
theorem SPo.rd {w : World} {A : Option Addr} {n c : Nat} {ps : List Po} (h : SPo w A n c ps) : Rd QP 2 w A n c ps :=
  ⟨h.len, h.small, h.nil, h.cap, fun hn => by
    obtain ⟨ad, e, hl, hc⟩ := h.mem hn
    refine ⟨ad, e, hl, hl, fun j hj => ?_⟩
    obtain ⟨B, m, d, h1, h2, h3, h4⟩ := hc j (by rw [← h.len]; exact hj)
    have ed : ps.getD j (0, []) = ps[j] := by simp [List.getD, List.getElem?_eq_getElem hj]
    rw [ed] at h1 h3 h4
    have hsp : ∃ v, w.cell? ⟨(ad.add (j * 2)).block, (ad.add (j * 2)).off, none⟩ = some v ∧ v = .int .i64 ps[j].1 := by
      refine ⟨_, ?_, rfl⟩
      have e2 : w.cell? (ad.add (j * 2)) = some (.int .i64 ps[j].1) := h1
      unfold World.cell? at e2 ⊢
      show (match w.heap[(ad.add (j * 2)).block]? with | some (.cells c _ _) => if (none : Option _).isSome then none else c[(ad.add (j * 2)).off]? | _ => none) = _
      split at e2
      · next hq => rw [hq]; split at e2; · cases e2
                   · exact e2
      · cases e2
    obtain ⟨v, hv, rfl⟩ := hsp
    refine ⟨[.int .i64 ps[j].1, .slice B m d], rfl, h1, fun i hi => ?_, B, m, d, rfl, h3.k, h4⟩
    rcases Nat.lt_or_ge i 1 with hi1 | hi1
    · obtain rfl : i = 0 := by omega
      exact hv
    · obtain rfl : i = 1 := by omega
      exact h2⟩
theorem Rd.spo {w : World} {A : Option Addr} {n c : Nat} {ps : List Po} (h : Rd QP 2 w A n c ps) : SPo w A n c ps :=
  ⟨h.len, h.small, h.nil, h.cap, fun hn => by
    obtain ⟨ad, e, hl, _, hc⟩ := h.mem hn
    refine ⟨ad, e, hl, fun j hj => ?_⟩
    have hj2 : j < ps.length := by rw [h.len]; exact hj
    obtain ⟨us, h1, h0, h2, B, m, d, e3, h3, h4⟩ := hc j hj2
    have ed : ps.getD j (0, []) = ps[j] := by simp [List.getD, List.getElem?_eq_getElem hj2]
    subst e3
    rw [ed]
    exact ⟨B, m, d, h0, h2 1 (by omega), h3.sl, h4⟩⟩
theorem QPs_ok : RdOk (QS QP 2) := QS_ok QP_ok 2
theorem SPP.rd {w : World} {A : Option Addr} {n c : Nat} {pss : List (List Po)} (h : SPP w A n c pss) : Rd (QS QP 2) 1 w A n c pss :=
  ⟨h.len, h.small, h.nil, h.cap, fun hn => by
    obtain ⟨ad, e, hl, hc⟩ := h.mem hn
    refine ⟨ad, e, hl, hl, fun j hj => ?_⟩
    obtain ⟨B, m, d, h1, h2⟩ := hc j (by rw [← h.len]; exact hj)
    have ed : pss.getD j [] = pss[j] := by simp [List.getD, List.getElem?_eq_getElem hj]
    rw [ed] at h2
    refine ⟨[.slice B m d], rfl, by rw [Nat.mul_one]; exact h1, fun i hi => ?_, B, m, d, rfl, h2.rd⟩
    obtain rfl : i = 0 := by omega
    have e2 : w.cell? (ad.add (j * 1)) = some (.slice B m d) := by rw [Nat.mul_one]; exact h1
    show w.cell? ⟨(ad.add (j * 1)).block, (ad.add (j * 1)).off, none⟩ = some (.slice B m d)
    unfold World.cell? at e2 ⊢
    show (match w.heap[(ad.add (j * 1)).block]? with | some (.cells c _ _) => if (none : Option _).isSome then none else c[(ad.add (j * 1)).off]? | _ => none) = _
    split at e2
    · next hq => rw [hq]; split at e2; · cases e2
                 · exact e2
    · cases e2⟩
theorem Rd.spp {w : World} {A : Option Addr} {n c : Nat} {pss : List (List Po)} (h : Rd (QS QP 2) 1 w A n c pss) : SPP w A n c pss :=
  ⟨h.len, h.small, h.nil, h.cap, fun hn => by
    obtain ⟨ad, e, hl, _, hc⟩ := h.mem hn
    refine ⟨ad, e, hl, fun j hj => ?_⟩
    have hj2 : j < pss.length := by rw [h.len]; exact hj
    obtain ⟨us, h1, h0, h2, B, m, d, e3, h3⟩ := hc j hj2
    have ed : pss.getD j [] = pss[j] := by simp [List.getD, List.getElem?_eq_getElem hj2]
    subst e3
    rw [ed]
    rw [Nat.mul_one] at h0
    exact ⟨B, m, d, h0, Rd.spo h3⟩⟩
end Go.Proofs.Ytgmjighgncpefaa
