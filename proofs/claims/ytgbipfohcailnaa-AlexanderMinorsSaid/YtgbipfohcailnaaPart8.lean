/- Several texts in one. -/
import Derived.Test.YtgbipfohcailnaaPart7
import Derived.Test.YtgbipfohcailnaaPart6
import Derived.Test.YtgbipfohcailnaaBase1
import Derived.Test.YtgbipfohcailnaaPart2
import Derived.Test.YtgbipfohcailnaaPart1
import Derived.Test.YtgbipfohcailnaaPart5
import Derived.Deep.DeepCutAuto
import Derived.Handy
import Derived.Laws.EntriesVeiled
/- The phase of XPhase over a matrix of maps: two steps put a map away: the pointer to a cell is made, the map is stored. -/
namespace Go.Proofs.Ytgbipfohcailnaa
set_option linter.unusedVariables false
set_option linter.unusedSimpArgs false
open Go.RowKit Go.Maps

theorem MapI.same {w w' : World} {b : Nat} {T : List Tm} (h1 : MapI w b T) (hb : w'.heap[b]? = w.heap[b]?) : MapI w' b T := by
  refine ⟨?_, h1.nodup⟩
  obtain ⟨D, ⟨es, clock, hbl, r1⟩, r⟩ := h1.dict.own
  exact ⟨D, ⟨es, clock, hb.trans hbl, r1⟩, r⟩
theorem MapI.ne_cells {w : World} {b g : Nat} {T : List Tm} {cs : Array Value} {t : TypeId} {fr : Nat × Nat} (h1 : MapI w b T) (hg : w.heap[g]? = some (.cells cs t fr)) : b ≠ g := by
  obtain ⟨D, ⟨es, clock, hbl, r1⟩, r⟩ := h1.dict.own
  rintro rfl
  rw [hbl] at hg
  cases hg
section
variable {C : Nat → ChainM} {base : Nat} {a0 : Act} {M : Nat → (Nat → Prop) → World → Prop} {ptrs : Nat → List (Nat × Value)} {st : List Nat} {S : World → Prop} {p : Nat → Nat} {a : Act} {w : World} {Q : Exit → Act → World → Prop} {ops : Array Oper}
theorem unf_up4 {b : Nat → Nat} {k x : Nat} (h : unf C (upC p 4 k) b x) : unf C p b x := by
  obtain ⟨c, h1, h2, h3, h4⟩ := h
  have e : upC p 4 k c = p c := if_neg (by omega)
  rw [e] at h2 h3
  exact ⟨c, h1, h2, h3, h4⟩
theorem chI_ptr (hM : PhM base M S) (h : ChI C base a0 M ptrs st p a w) {k' i t : Nat} {v : Value} {op : Op} {ty : TypeId} {pos : String} {af : Array Edge}
    (hop : ops[i]? = some ⟨some t, op, ty, pos, af, none⟩) (hg : ∀ a w, (∀ u, (∀ c, c < 4 → u ≠ (C c).s ∧ (C c).t ≠ some u) → u ∉ st → a.tmps[u]? = a0.tmps[u]?) → Gives Try.prog ⟨some t, op, ty, pos, af, none⟩ a w v)
    (hnew : ∀ y ∈ ptrs k', y ∈ ptrs (p 4) ∨ y = (t, v)) (htn : ∀ y ∈ ptrs (p 4), y.1 ≠ t) (ht : t ∈ st) (hts : t < a0.tmps.size)
    (hst : ∀ c, c < 4 → (C c).s ∉ st ∧ ∀ t, (C c).t = some t → t ∉ st) (hMk : ∀ F z, M (p 4) F z → M k' F z) :
    wpOp Try.prog ops Q i (fun a' w' => S w' ∧ ChI C base a0 M ptrs st (upC p 4 k') a' w') a w := by
  obtain ⟨b, hb, hd, hMw⟩ := h.maps
  have upc : upC p 4 k' 4 = k' := if_pos rfl
  have upd : ∀ d, d < 4 → upC p 4 k' d = p d := fun d hd => if_neg (by omega)
  unfold wpOp
  simp only [hop]
  refine .inl ?_
  refine wp_gives (v := v) (hg a w h.other) ?_
  refine ⟨hM.s hMw, h.defers, by rw [put_size]; exact h.size, fun u hu hus => ?_, fun y hy => ?_, b, fun d hdm hp => ?_, fun d e hdm hem hde hpd hpe => ?_, ?_⟩
  · rw [put_ne (fun e => hus (by rw [e]; exact ht))]; exact h.other u hu hus
  · rw [upc] at hy
    rcases hnew y hy with h1 | rfl
    · rw [put_ne (htn y h1)]; exact h.ptr y h1
    · exact put_at (by rw [h.size]; exact hts)
  · rw [upd d hdm] at hp ⊢
    obtain ⟨h1, h2, h3, h4⟩ := hb d hdm hp
    exact ⟨h1, h2, by rw [put_ne (fun e => (hst d hdm).1 (by rw [e]; exact ht))]; exact h3, fun u hu hl => by rw [put_ne (fun e => (hst d hdm).2 u hu (by rw [e]; exact ht))]; exact h4 u hu hl⟩
  · rw [upd d hdm] at hpd; rw [upd e hem] at hpe
    exact hd d e hdm hem hde hpd hpe
  · rw [upc]
    exact hM.mono (fun x hx => unf_up4 hx) (hMk _ _ hMw)
theorem chI_store (hM : PhM base M S) (h : ChI C base a0 M ptrs st p a w) {k' i j : Nat} {x y : Operand} {tt ty : TypeId} {pos : String} {af : Array Edge} {ad : Addr}
    (hop : ops[i]? = some ⟨none, .store tt x y, ty, pos, af, none⟩) (h1 : ∀ w, (isAgg tt).run Try.prog w = .ok false w) (hsz : ∀ w, (sizeOf tt).run Try.prog w = .ok 1 w) (hx : a.eval x = .pointer (some ad)) (hj : j < 4)
    (hy : ∀ v, a.tmps[(C j).s]? = some v → (∀ t, (C j).t = some t → (C j).moved (p j) = true → a.tmps[t]? = some v) → a.eval y = v)
    (hmade : (C j).made (p j) = true) (hfin : (C j).rank (p j) = (C j).R) (hptr : ptrs k' = ptrs (p 4))
    (hMc : ∀ F, M (p 4) F w → (∃ old, w.cell? ad = some old) ∧ w.frozen? ad = false ∧ ∃ cs t fr, w.heap[ad.block]? = some (.cells cs t fr))
    (hMk : ∀ b F, base ≤ b → MapI w b ((C j).T (p j)) → ¬ F b → M (p 4) F w → M k' F (w.setCell ad (.map (some b)))) :
    wpOp Try.prog ops Q i (fun a' w' => S w' ∧ ChI C base a0 M ptrs st (upC p 4 k') a' w') a w := by
  obtain ⟨b, hb, hd, hMw⟩ := h.maps
  have upc : upC p 4 k' 4 = k' := if_pos rfl
  have upd : ∀ d, d < 4 → upC p 4 k' d = p d := fun d hd => if_neg (by omega)
  obtain ⟨g1, g2, g3, g4⟩ := hb j hj hmade
  obtain ⟨⟨old, hold⟩, hfr, cs, tc, fr, hcs⟩ := hMc _ hMw
  have hM2 := hMk (b j) _ g1 g2 (fun ⟨c, hc1, hc2, hc3, hc4⟩ => by
    by_cases e : c = j
    · subst e; exact hc3 hfin
    · exact hd c j hc1 hj e hc2 hmade hc4.symm) hMw
  unfold wpOp
  simp only [hop]
  refine .inl ?_
  refine wp_storeM rfl (h1 w) (hsz w) hx (hy _ g3 g4) hold hfr ?_
  refine ⟨hM.s hM2, h.defers, h.size, h.other, by rw [upc, hptr]; exact h.ptr, b, fun d hdm hp => ?_, fun d e hdm hem hde hpd hpe => ?_, ?_⟩
  · rw [upd d hdm] at hp ⊢
    obtain ⟨r1, r2, r3, r4⟩ := hb d hdm hp
    exact ⟨r1, r2.same (Below.heap_setCell w ad _ (b d) (r2.ne_cells hcs)), r3, r4⟩
  · rw [upd d hdm] at hpd; rw [upd e hem] at hpe
    exact hd d e hdm hem hde hpd hpe
  · rw [upc]
    exact hM.mono (fun x hx => unf_up4 hx) hM2
end
/-- The slot is no chain's. -/
def chkO (C : Nat → ChainM) (u : Nat) : Bool := (List.range 4).all fun c => u != (C c).s && (C c).t != some u
theorem chkO_spec {C : Nat → ChainM} {u : Nat} (h : chkO C u = true) : ∀ c, c < 4 → u ≠ (C c).s ∧ (C c).t ≠ some u := fun c hc => by
  have h1 := List.all_eq_true.1 h c (List.mem_range.2 hc)
  rw [Bool.and_eq_true] at h1
  exact ⟨by simpa using h1.1, by simpa using h1.2⟩
theorem chkO_st {C : Nat → ChainM} {st : List Nat} (h : ∀ u ∈ st, chkO C u = true) : ∀ c, c < 4 → (C c).s ∉ st ∧ ∀ t, (C c).t = some t → t ∉ st := fun c hc =>
  ⟨fun hm => (chkO_spec (h _ hm) c hc).1 rfl, fun t ht hm => (chkO_spec (h _ hm) c hc).2 ht⟩
theorem vld_fin {C : Nat → ChainM} {p : Nat → Nat} {k j : Nat} (h : vld C (upC p 4 k) = true) (hj : j < 4) (hk : 2 * j + 1 ≤ k) : (C j).rank (p j) = (C j).R := by
  have h1 := List.all_eq_true.1 h j (List.mem_range.2 hj)
  rw [Bool.or_eq_true, show upC p 4 k 4 = k from if_pos rfl, show upC p 4 k j = p j from if_neg (by omega)] at h1
  rcases h1 with h1 | h1
  · have := of_decide_eq_true h1; omega
  · simpa using h1
theorem gives_index1 {P : Program} {o : Oper} {a : Act} {w : World} {t e : TypeId} {x y : Operand} {g k n c : Nat} {q : IntKind} (ho : o.op = .indexAddr t x y) (ht : P.underlying t = some (.slice e)) (he : ∀ w, (sizeOf e).run P w = .ok 1 w) (hx : a.eval x = .slice (some ⟨g, 0, none⟩) n c) (hy : a.eval y = .int q k) (hk : k < n) :
    Gives P o a w (.pointer (some ⟨g, k, none⟩)) := by
  have := gives_indexB (w := w) ho ht he hx hy hk
  rwa [Nat.mul_one] at this
/-- The first j of four cells are written. -/
def zst (Z : Mtx LP) (pi : Nat → Nat × Nat) (e : Nat → LP) : Nat → Mtx LP
  | 0 => Z
  | j + 1 => fun a c => if a = (pi j).1 ∧ c = (pi j).2 then e j else zst Z pi e j a c
def pi4 (q : Nat) : Nat → Nat × Nat
  | 0 => (q - 1, q - 1)
  | 1 => (q - 1, q)
  | 2 => (q, q - 1)
  | _ => (q, q)
def MB (w wr : World) (go n : Nat) (gr : Nat → Option Nat) (Z : Mtx LP) (q : Nat) (e : Nat → LP) (k : Nat) (F : Nat → Prop) (z : World) : Prop :=
  Below w.heap.size wr z ∧ wr.heap.size ≤ z.heap.size ∧ ∃ mb, MatO w.heap.size z go n gr mb (zst Z (pi4 q) e (k / 2)) 1 ∧ (∀ a, a < n → ∀ c, c < n → ∃ b, mb a c = some b) ∧ ∀ a, a < n → ∀ c, c < n → ∀ b, mb a c = some b → ¬ F b
section
variable {w wr : World} {go n q g1 g2 : Nat} {gr : Nat → Option Nat} {Z : Mtx LP} {e : Nat → LP}
theorem phB (hbw : w.heap.size ≤ wr.heap.size) (hgo : go < wr.heap.size) (hlt : ∀ i, i < n → ∀ g, gr i = some g → g < wr.heap.size) (hq1 : q - 1 < n) (hq : q < n) (hg1 : gr (q - 1) = some g1) (hg2 : gr q = some g2) :
    PhM wr.heap.size (MB w wr go n gr Z q e) (fun z => Below w.heap.size wr z ∧ z.cell? ⟨go, (q - 1) * 1, none⟩ = some (.slice (some ⟨g1, 0, none⟩) n n) ∧ z.cell? ⟨go, q * 1, none⟩ = some (.slice (some ⟨g2, 0, none⟩) n n)) where
  s := fun {k F z} h => by
    obtain ⟨h1, h2, mb, h3, _, _⟩ := h
    refine ⟨h1, ?_, ?_⟩
    · rw [Nat.mul_one, h3.outCell hq1, hg1]; rfl
    · rw [Nat.mul_one, h3.outCell hq, hg2]; rfl
  le := fun {k F z} h => h.2.1
  mono := fun {k F F' z} hx h => by
    obtain ⟨h1, h2, mb, h3, h4, h5⟩ := h
    exact ⟨h1, h2, mb, h3, h4, fun a ha c hc b hb hF => h5 a ha c hc b hb (hx b hF)⟩
  alloc := fun {k F z} h => by
    obtain ⟨h1, h2, mb, h3, h4, h5⟩ := h
    have hb : Below z.heap.size z (z.alloc (.map #[] 0)) := (Below.refl _ _).alloc (Nat.le_refl _) _
    refine ⟨h1.alloc (by omega) _, Nat.le_trans h2 hb.size, mb, h3.to hb, h4, fun a ha c hc b hbb hF => ?_⟩
    rcases hF with hF | hF
    · exact h5 a ha c hc b hbb hF
    · have := (h3.map a ha c hc b hbb).2.lt
      omega
  ins := fun {k F z z' b} h hF hb hg => by
    obtain ⟨h1, h2, mb, h3, h4, h5⟩ := h
    have hs : SameK (fun x => x < z.heap.size ∧ some b ≠ some x) z z' := SameK.grown hg
    refine ⟨h1.grown hg (by omega) (fun k hk => by injection hk with hk; omega), Nat.le_trans h2 hg.size, mb, ⟨h3.out.keep hs fun k hk => ?_, fun i hi g hgi => (h3.row i hi g hgi).keep hs fun k hk => ?_, h3.ne, h3.inj, fun i hi j hj b' hb' => ?_⟩, h4, h5⟩
    · have hk2 := h3.out.lt k hk
      have : k = go := by simpa [Value.ownBlock] using hk.symm
      subst this
      exact ⟨hk2.2, fun e2 => by injection e2 with e2; omega⟩
    · have hk2 := (h3.row i hi g hgi).lt k hk
      have : k = g := by simpa [Value.ownBlock] using hk.symm
      subst this
      have := hlt i hi k hgi
      exact ⟨hk2.2, fun e2 => by injection e2 with e2; omega⟩
    · have hm := h3.map i hi j hj b' hb'
      exact ⟨hm.1, hm.2.same (hs b' ⟨hm.2.lt, fun e2 => by injection e2 with e2; subst e2; exact h5 i hi j hj b hb' hF⟩)⟩
theorem MB.half {k k' : Nat} {F : Nat → Prop} {z : World} (h : MB w wr go n gr Z q e k F z) (hk : k / 2 = k' / 2) : MB w wr go n gr Z q e k' F z := by
  obtain ⟨h1, h2, mb, h3, h4, h5⟩ := h
  rw [hk] at h3
  exact ⟨h1, h2, mb, h3, h4, h5⟩
theorem MB.cell {k : Nat} {F : Nat → Prop} {z : World} (h : MB w wr go n gr Z q e k F z) {i j g : Nat} (hi : i < n) (hj : j < n) (hg : gr i = some g) :
    (∃ old, z.cell? ⟨g, j, none⟩ = some old) ∧ z.frozen? ⟨g, j, none⟩ = false ∧ ∃ cs t fr, z.heap[g]? = some (.cells cs t fr) := by
  obtain ⟨h1, h2, mb, h3, h4, h5⟩ := h
  obtain ⟨cur, _, hc⟩ := (h3.row i hi g hg).cells g rfl
  exact ⟨⟨_, h3.rowCell hi hj hg⟩, h3.rowFrozen hi hg, cur, _, _, hc⟩
theorem MB.put {k j b g : Nat} {F : Nat → Prop} {z : World} (h : MB w wr go n gr Z q e k F z) (hbw : w.heap.size ≤ wr.heap.size) (hk : k = 2 * j + 1) (hi : (pi4 q j).1 < n) (hj : (pi4 q j).2 < n) (hg : gr (pi4 q j).1 = some g) (hb : wr.heap.size ≤ b) (ht : TV z b (e j) 1) (hF : ¬ F b) :
    MB w wr go n gr Z q e (2 * j + 2) F (z.setCell ⟨g, (pi4 q j).2, none⟩ (.map (some b))) := by
  subst hk
  obtain ⟨h1, h2, mb, h3, h4, h5⟩ := h
  have hk2 : (2 * j + 1) / 2 = j := by omega
  have hk3 : (2 * j + 2) / 2 = j + 1 := by omega
  rw [hk2] at h3
  have h6 := h3.set_ hi hj hg (by omega) ht
  refine ⟨h1.setCell (p := ⟨g, (pi4 q j).2, none⟩) (h3.rowLt hi hg).1 _, ?_, _, by rw [hk3]; exact h6, fun a ha c hc => ?_, fun a ha c hc b' hb' => ?_⟩
  · have : (z.setCell ⟨g, (pi4 q j).2, none⟩ (.map (some b))).heap.size = z.heap.size := by simp [World.setCell]
    omega
  · show ∃ b', (if a = (pi4 q j).1 ∧ c = (pi4 q j).2 then some b else mb a c) = some b'
    split
    · exact ⟨_, rfl⟩
    · exact h4 a ha c hc
  · change (if a = (pi4 q j).1 ∧ c = (pi4 q j).2 then some b else mb a c) = some b' at hb'
    split at hb'
    · injection hb' with hb'; rw [← hb']; exact hF
    · exact h5 a ha c hc b' hb'
end
end Go.Proofs.Ytgbipfohcailnaa
/- timbref1.BraidFault, Index, Ends. -/
namespace Go.Proofs.Ytgbipfohcailnaa
set_option linter.unusedVariables false
set_option linter.unusedSimpArgs false
open Go.RowKit

set_option maxHeartbeats 2000000 in
theorem braidFault_any (m : Int) (A : Option Addr) (n c : Nat) (xs : List Int) (w : World) (ha : IL w A n xs) (hm : (Lit.int .i64 m).wf = true) :
    Calls Try.prog 6 #[.int .i64 m, .slice A n c] w fun e w' => e = .returned (.int .i64 (bfault m xs)) ∧ w = w' := by
  have hl := ha.len
  have hns := ha.small
  have HA := hide ha
  have HL := hide hl
  have HM := hide hm
  clear ha hl hm
  by_cases h1 : m < 1
  · have HF : Hid (bfault m xs = 1) := hide (by unfold bfault; rw [if_pos (.inl h1)])
    go_enter Try.func6, Try.ntmps6
    go_wp2
    go_ret
    rw [HF.out]
    exact ⟨rfl, rfl⟩
  by_cases h6 : 6 < m
  · have HF : Hid (bfault m xs = 1) := hide (by unfold bfault; rw [if_pos (.inr h6)])
    go_enter Try.func6, Try.ntmps6
    go_wp2
    go_ret
    rw [HF.out]
    exact ⟨rfl, rfl⟩
  by_cases h30 : 30 < n
  · have HF : Hid (bfault m xs = 2) := hide (by unfold bfault; rw [if_neg (by omega), if_pos (by rw [HL.out]; exact h30)])
    go_enter Try.func6, Try.ntmps6
    go_wp2
    go_ret
    rw [HF.out]
    exact ⟨rfl, rfl⟩
  · have HF : Hid (bfault m xs = if xs.all (okX m) then 0 else 3) := hide (by unfold bfault; rw [if_neg (by omega), if_neg (by rw [HL.out]; exact h30)])
    have hwm : IntKind.i64.wrap (-m) = -m := by rw [IntKind.wrap_i64]; omega
    go_enter Try.func6, Try.ntmps6
    go_wp2
    go_loop [18] (fun iv => ∃ k : Nat, k ≤ n ∧ iv = .int .i64 k ∧ Hid ((xs.take k).all (okX m) = true)) (fun iv => n - (intOf iv).toNat)
    case atStart => exact ⟨0, Nat.zero_le _, rfl, by rw [List.take_zero]; exact rfl⟩
    case round =>
      obtain ⟨k, hk, rfl, HK⟩ := hrel
      by_cases hlt : k < n
      · obtain ⟨ad, rfl, hcl⟩ := HA.out.at_ hlt
        have hkl : k < xs.length := by rw [HL.out]; exact hlt
        have hget : xs.getD k 0 = xs[k] := by simp [List.getD, List.getElem?_eq_getElem hkl]
        have HT : Hid ((xs.take (k + 1)).all (okX m) = ((xs.take k).all (okX m) && okX m (xs.getD k 0))) := hide (by rw [List.take_succ_eq_append_getElem hkl, List.all_append, hget]; simp)
        have HM : Hid (xs.getD k 0 ∈ xs) := hide (by rw [hget]; exact List.getElem_mem _)
        clear hkl hget
        generalize xs.getD k 0 = x at *
        by_cases hok : x ≠ 0 ∧ x < m ∧ -m < x
        · have HN : Hid ((xs.take (k + 1)).all (okX m) = true) := hide (by rw [HT.out, HK.out]; simp [okX, hok])
          obtain ⟨h0, h2, h3⟩ := hok
          have hb : (x == 0) = false := by simpa using h0
          clear h0
          go_wp2
          go_round
          case rel => exact ⟨k + 1, by omega, by go_num, HN.out⟩
          case measure => simp [intOf]; omega
        · have HN : Hid (xs.all (okX m) = false) := hide (by
            rw [Bool.eq_false_iff]
            intro h
            have := List.all_eq_true.1 h x HM.out
            exact hok (by simpa [okX] using this))
          rw [HN.out] at HF
          by_cases h0 : x = 0
          · subst h0
            clear hok
            go_wp2
            go_ret
            rw [HF.out]
            exact ⟨rfl, rfl⟩
          · have hb : (x == 0) = false := by simpa using h0
            by_cases h2 : m ≤ x
            · clear hok h0
              go_wp2
              go_ret
              rw [HF.out]
              exact ⟨rfl, rfl⟩
            · have h3 : x ≤ -m := by
                rcases Int.lt_or_le (-m) x with h | h
                · exact absurd ⟨h0, by omega, h⟩ hok
                · exact h
              clear hok h0
              go_wp2
              go_ret
              rw [HF.out]
              exact ⟨rfl, rfl⟩
      · have HE : Hid (xs.all (okX m) = true) := hide (by
          have := HK.out
          rwa [List.take_of_length_le (by rw [HL.out]; omega)] at this)
        rw [HE.out] at HF
        go_wp2
        go_ret
        rw [HF.out]
        exact ⟨rfl, rfl⟩

set_option maxHeartbeats 1000000 in
theorem index_any_ (x : Int) (w : World) (hx : x.natAbs ≤ 1000000) : Calls Try.prog 40 #[.int .i64 x] w fun e w' => e = .returned (.int .i64 (x.natAbs : Int)) ∧ w = w' := by
  have hw : IntKind.i64.wrap (-x) = -x := by rw [IntKind.wrap_i64]; omega
  by_cases h : 0 ≤ x
  · obtain ⟨a, rfl⟩ : ∃ a : Nat, x = (a : Int) := ⟨x.natAbs, by omega⟩
    rw [Int.natAbs_natCast]
    have hm : max (a : Int) (-(a : Int)) = (a : Int) := by omega
    go_enter Try.func40, Try.ntmps40
    go_wp2
    all_goals first | (exfalso; omega) | (go_ret; exact ⟨rfl, rfl⟩)
  · obtain ⟨a, rfl⟩ : ∃ a : Nat, x = -(a : Int) := ⟨x.natAbs, by omega⟩
    rw [Int.natAbs_neg, Int.natAbs_natCast, Int.neg_neg] at *
    have hm : max (-(a : Int)) (a : Int) = (a : Int) := by omega
    go_enter Try.func40, Try.ntmps40
    go_wp2
    all_goals first | (exfalso; omega) | (go_ret; exact ⟨rfl, rfl⟩)

end Go.Proofs.Ytgbipfohcailnaa
/- Several slices that the call builds side by side: none of them touches what the others hold. -/
namespace Go.Proofs.Ytgbipfohcailnaa
set_option linter.unusedVariables false
set_option linter.unusedSimpArgs false
open Go.RowKit

/-- A slice that the call builds: its own row of cells, and items that are read outside it, in blocks of L. -/
structure BldO {α : Type} (L : Nat → Prop) (Q : RdI α) (e : TypeId) (sz base : Nat) (w : World) (A : Option Addr) (n c : Nat) (vs : List Value) (ys : List α) : Prop where
  own : OwnG e sz w base A n c vs
  len : ys.length = n
  row : ∀ j (hj : j < ys.length), Q (fun b => L b ∧ b < w.heap.size) w ((vs.drop (j * sz)).take sz) ys[j]
section
variable {α : Type} {L L' : Nat → Prop} {Q : RdI α} {e : TypeId} {sz base n c : Nat} {w w' : World} {A : Option Addr} {vs : List Value} {ys : List α}
theorem BldO.start (L : Nat → Prop) (Q : RdI α) (e : TypeId) (sz base : Nat) (w : World) : BldO L Q e sz base w none 0 0 [] [] := ⟨OwnG.nil_ _ _ _ _, rfl, fun j hj => by simp at hj⟩
theorem BldO.to (hQ : RdOk Q) (h : BldO L Q e sz base w A n c vs ys) (hb : Below w.heap.size w w') : BldO L Q e sz base w' A n c vs ys :=
  ⟨h.own.below hb, h.len, fun j hj => hQ.mono (fun b _ hb2 => ⟨hb2.1, Nat.lt_of_lt_of_le hb2.2 hb.size⟩) (hQ.keep ((SameK.below hb).mono fun b hb2 => hb2.2) hb.size (h.row j hj))⟩
/-- Something outside it has changed. -/
theorem BldO.same {K : Nat → Prop} (hQ : RdOk Q) (h : BldO L Q e sz base w A n c vs ys) (hk : SameK K w w') (hs : w.heap.size ≤ w'.heap.size) (hK : ∀ b, b < w.heap.size → L b → K b) (ho : ∀ k, (Value.slice A n c).ownBlock = some k → K k) : BldO L Q e sz base w' A n c vs ys :=
  ⟨h.own.keep hk ho, h.len, fun j hj => hQ.mono (fun b _ hb2 => ⟨hb2.1, Nat.lt_of_lt_of_le hb2.2 hs⟩) (hQ.keep (hk.mono fun b hb2 => hK b hb2.2 hb2.1) hs (h.row j hj))⟩
theorem BldO.relax (hQ : RdOk Q) (h : BldO L Q e sz base w A n c vs ys) (hl : ∀ b, b < w.heap.size → L b → L' b) : BldO L' Q e sz base w A n c vs ys :=
  ⟨h.own, h.len, fun j hj => hQ.mono (fun b _ hb2 => ⟨hl b hb2.2 hb2.1, hb2.2⟩) (h.row j hj)⟩
theorem BldO.add (hQ : RdOk Q) {A9 : Option Addr} {c9 : Nat} {w9 : World} {us : List Value} {y : α} (h : BldO L Q e sz base w A n c vs ys) (hl : us.length = sz)
    (hL : ∀ b, L b → (Value.slice A n c).ownBlock ≠ some b) (hy : Q (fun b => L b ∧ b < w.heap.size) w us y) (happ : AppG e sz w base A (n + 1) c (vs ++ us) A9 c9 w9) :
    BldO L Q e sz base w9 A9 (n + 1) c9 (vs ++ us) (ys ++ [y]) := by
  have hown : (Value.slice A (n + 1) c).ownBlock = (Value.slice A n c).ownBlock := ownBlock_len A (n + 1) n c c
  have hsame : SameK (fun b => L b ∧ b < w.heap.size) w w9 := by
    have := SameK.grown happ.grown
    rw [hown] at this
    exact this.mono fun b hb => ⟨hb.2, hL b hb.1⟩
  have hup : ∀ b, b < w9.heap.size → (L b ∧ b < w.heap.size) → L b ∧ b < w9.heap.size := fun b hb h2 => ⟨h2.1, hb⟩
  have hvl := h.own.len
  refine ⟨happ.own, by simp [h.len], fun j hj => ?_⟩
  have hj2 : j < n + 1 := by simp [h.len] at hj; exact hj
  by_cases hjn : j < n
  · have hj3 : j < ys.length := by rw [h.len]; exact hjn
    have hm : (j + 1) * sz ≤ n * sz := Nat.mul_le_mul_right _ hjn
    rw [Nat.add_mul, Nat.one_mul] at hm
    have e1 : ((vs ++ us).drop (j * sz)).take sz = (vs.drop (j * sz)).take sz := by
      rw [List.drop_append_of_le_length (by omega), List.take_append_of_le_length (by rw [List.length_drop]; omega)]
    have e2 : (ys ++ [y])[j] = ys[j] := List.getElem_append_left hj3
    rw [e1, e2]
    exact hQ.mono hup (hQ.keep hsame happ.grown.size (h.row j hj3))
  · have hjn2 : j = n := by omega
    subst hjn2
    have e1 : ((vs ++ us).drop (j * sz)).take sz = us := by
      rw [List.drop_append, show vs.drop (j * sz) = [] from List.drop_eq_nil_of_le (by omega), hvl, Nat.sub_self, List.drop_zero, List.nil_append, List.take_of_length_le (by omega)]
    have e2 : (ys ++ [y])[j] = y := by rw [List.getElem_append_right (by rw [h.len]; exact Nat.le_refl _)]; simp
    rw [e1, e2]
    exact hQ.mono hup (hQ.keep hsame happ.grown.size hy)
theorem BldO.rdK (hQ : RdOk Q) (hs0 : 0 < sz) {K : Nat → Prop} (hK : ∀ b, b < w.heap.size → L b → K b) (hO : ∀ k, (Value.slice A n c).ownBlock = some k → K k) (h : BldO L Q e sz base w A n c vs ys) : RdS Q sz K w A n c ys := by
  have hvl := h.own.len
  refine ⟨h.len, by have := h.own.small; omega, h.own.nilcap.1, h.own.nilcap.2, fun hn => ?_⟩
  obtain ⟨g, rfl, hgb, hl⟩ := h.own.form hn
  refine ⟨_, rfl, hl, hO g rfl, fun j hj => ⟨(vs.drop (j * sz)).take sz, ?_, ?_, ?_, hQ.mono (fun b hb h2 => hK b hb h2.1) (h.row j hj)⟩⟩
  · have hj2 := h.len
    have hm : (j + 1) * sz ≤ n * sz := Nat.mul_le_mul_right _ (by omega)
    rw [Nat.add_mul, Nat.one_mul] at hm
    rw [List.length_take, List.length_drop]; omega
  · have hj2 := h.len
    have hm : (j + 1) * sz ≤ n * sz := Nat.mul_le_mul_right _ (by omega)
    rw [Nat.add_mul, Nat.one_mul] at hm
    rw [show (⟨g, 0, none⟩ : Addr).add (j * sz) = ⟨g, j * sz, none⟩ by unfold Addr.add; split <;> simp_all, h.own.cellAt (by omega)]
    rw [List.getElem?_take, if_pos hs0, List.getElem?_drop, Nat.add_zero]
  · intro i hi
    have hj2 := h.len
    have hm : (j + 1) * sz ≤ n * sz := Nat.mul_le_mul_right _ (by omega)
    rw [Nat.add_mul, Nat.one_mul] at hm
    rw [show (⟨g, 0, none⟩ : Addr).add (j * sz) = ⟨g, j * sz, none⟩ by unfold Addr.add; split <;> simp_all]
    show w.cell? ⟨g, j * sz + i, none⟩ = _
    rw [h.own.cellAt (by omega), List.getElem?_take, if_pos hi, List.getElem?_drop]
theorem BldO.rd (hQ : RdOk Q) (hs0 : 0 < sz) (h : BldO L Q e sz base w A n c vs ys) : Rd Q sz w A n c ys := h.rdK hQ hs0 (fun b hb _ => hb) (fun k hk => (h.own.lt k hk).2)
end

/-- Block b is none of the blocks O. -/
def Fr (O : List (Option Nat)) (b : Nat) : Prop := ∀ o ∈ O, o ≠ some b
/-- The blocks of O are there, and are different. -/
structure Dis (s : Nat) (O : List (Option Nat)) : Prop where
  lt : ∀ o ∈ O, ∀ k, o = some k → k < s
  pw : O.Pairwise fun a b => ∀ k, a = some k → b ≠ some k
theorem Dis.up {s s' : Nat} {O : List (Option Nat)} (h : Dis s O) (hs : s ≤ s') : Dis s' O := ⟨fun o ho k e => Nat.lt_of_lt_of_le (h.lt o ho k e) hs, h.pw⟩
theorem Fr.mv {s : Nat} {O : List (Option Nat)} {i : Nat} {o o' : Option Nat} {b : Nat} (hn : o' = o ∨ o' = some s) (hi : O[i]? = some o) (hb : b < s) (h : Fr O b) : Fr (O.set i o') b := fun x hx => by
  rcases List.mem_or_eq_of_mem_set hx with h1 | h1
  · exact h x h1
  · subst h1
    rcases hn with h2 | h2
    · subst h2; exact h x (List.mem_of_getElem? hi)
    · subst h2; intro e; injection e with e; omega
theorem Dis.mv {s s' : Nat} {O : List (Option Nat)} {i : Nat} {o o' : Option Nat} (hn : o' = o ∨ o' = some s) (hi : O[i]? = some o) (hs : s ≤ s') (h9 : ∀ k, o' = some k → k < s') (h : Dis s O) : Dis s' (O.set i o') := by
  refine ⟨fun x hx k e => ?_, ?_⟩
  · rcases List.mem_or_eq_of_mem_set hx with h1 | h1
    · exact Nat.lt_of_lt_of_le (h.lt x h1 k e) hs
    · subst h1
      exact h9 k e
  · rcases hn with h2 | h2
    · subst h2
      obtain ⟨hlt, he⟩ := List.getElem?_eq_some_iff.1 hi
      rw [← he, List.set_getElem_self]
      exact h.pw
    · subst h2
      rw [List.pairwise_iff_getElem]
      intro a b ha hb hab k hk
      simp only [List.length_set] at ha hb
      have hp := List.pairwise_iff_getElem.1 h.pw a b ha hb hab k
      rw [List.getElem_set] at hk ⊢
      by_cases e1 : i = a
      · rw [if_pos e1] at hk
        injection hk with hk
        subst hk
        by_cases e2 : i = b
        · omega
        · rw [if_neg e2]
          intro e
          exact absurd (h.lt _ (List.getElem_mem hb) _ e) (Nat.lt_irrefl _)
      · rw [if_neg e1] at hk
        by_cases e2 : i = b
        · rw [if_pos e2]
          intro e; injection e with e
          have := h.lt _ (List.getElem_mem ha) _ hk
          omega
        · rw [if_neg e2]
          exact hp hk
/-- The block of a slice's head. -/
def ob (A : Option Addr) : Option Nat := A.map (·.block)
theorem ob_own (A : Option Addr) (n c : Nat) : (Value.slice A n c).ownBlock = ob A := by cases A <;> rfl
/-- A change of the block o, one of O; what was free of O is free of O'. -/
structure Step (O O' : List (Option Nat)) (w w' : World) (o : Option Nat) : Prop where
  grown : w.grownBy w' o
  mem : o ∈ O
  fr : ∀ b, b < w.heap.size → Fr O b → Fr O' b
  dis : Dis w'.heap.size O'
section
variable {O O' : List (Option Nat)} {w w' : World} {o : Option Nat}
theorem Step.same (h : Step O O' w w' o) : SameK (fun b => Fr O b ∧ b < w.heap.size) w w' := (SameK.grown h.grown).mono fun b hb => ⟨hb.2, hb.1 o h.mem⟩
theorem BldO.step {α : Type} {Q : RdI α} {e : TypeId} {sz base n c : Nat} {A : Option Addr} {vs : List Value} {ys : List α} (hQ : RdOk Q) (h : BldO (Fr O) Q e sz base w A n c vs ys) (hs : Step O O' w w' o) (hne : ∀ k, ob A = some k → o ≠ some k) : BldO (Fr O') Q e sz base w' A n c vs ys := by
  refine BldO.relax (L := fun b => Fr O b ∧ b < w.heap.size) hQ ?_ (fun b _ hb => hs.fr b hb.2 hb.1)
  refine BldO.same (K := fun b => b < w.heap.size ∧ o ≠ some b) hQ (h.relax hQ fun b hl hb => ⟨hb, hl⟩) (SameK.grown hs.grown) hs.grown.size (fun b _ hb => ⟨hb.2, hb.1 o hs.mem⟩) fun k hk => ⟨(h.own.lt k hk).2, hne k (by rw [← ob_own A n c]; exact hk)⟩
theorem BldO.addS {α : Type} {Q : RdI α} {e : TypeId} {sz base n c : Nat} {A A9 : Option Addr} {c9 : Nat} {vs us : List Value} {ys : List α} {y : α} (hQ : RdOk Q) (h : BldO (Fr O) Q e sz base w A n c vs ys) (hs : Step O O' w w' o) (ho : o = ob A) (hl : us.length = sz)
    (hy : Q (fun b => Fr O b ∧ b < w.heap.size) w us y) (happ : AppG e sz w base A (n + 1) c (vs ++ us) A9 c9 w') : BldO (Fr O') Q e sz base w' A9 (n + 1) c9 (vs ++ us) (ys ++ [y]) :=
  ((h.relax (L' := fun b => Fr O b ∧ b < w.heap.size) hQ fun b hl hb => ⟨hb, hl⟩).add hQ hl (fun b hb => by rw [ob_own, ← ho]; exact hb.1 o hs.mem) (hQ.mono (fun b hl hb => ⟨hb, hl⟩) hy) happ).relax hQ fun b _ hb => hs.fr b hb.2 hb.1
theorem RdS.step {α : Type} {Q : RdI α} {sz n c : Nat} {A : Option Addr} {ys : List α} (hQ : RdOk Q) (h : RdS Q sz (fun b => Fr O b ∧ b < w.heap.size) w A n c ys) (hs : Step O O' w w' o) : RdS Q sz (fun b => Fr O' b ∧ b < w'.heap.size) w' A n c ys :=
  (h.keep hQ hs.same hs.grown.size).mono hQ fun b hb h2 => ⟨hs.fr b h2.2 h2.1, hb⟩
theorem SLK.step {n c : Nat} {A : Option Addr} {xs : List Int} (h : SLK (fun b => Fr O b ∧ b < w.heap.size) w A n c xs) (hs : Step O O' w w' o) : SLK (fun b => Fr O' b ∧ b < w'.heap.size) w' A n c xs :=
  (h.keep hs.same hs.grown.size).mono fun b hb h2 => ⟨hs.fr b h2.2 h2.1, hb⟩
theorem Step.blk {g : Nat} {t : TypeId} {cs : Array Value} (hs : Step O O' w w' o) (h : Blk w g t cs) (hg : o ≠ some g) : Blk w' g t cs := (hs.grown.block g h.lt (fun e => hg e.symm)).trans h
/-- append. -/
theorem Step.app {e : TypeId} {sz base i n c : Nat} {A A' : Option Addr} {c' : Nat} {vs : List Value} (hd : Dis w.heap.size O) (hi : O[i]? = some (ob A)) (happ : AppG e sz w base A n c vs A' c' w') : Step O (O.set i (ob A')) w w' (ob A) := by
  have hg := happ.grown
  have hl := happ.lies
  rw [ob_own] at hg hl
  rw [ob_own] at hl
  refine ⟨hg, List.mem_of_getElem? hi, fun b hb h => h.mv hl hi hb, hd.mv hl hi hg.size fun k hk => (happ.own.lt k (by rw [ob_own]; exact hk)).2⟩
theorem Dis.ne {s i j : Nat} {a b : Option Nat} (h : Dis s O) (hi : O[i]? = some a) (hj : O[j]? = some b) (hij : i ≠ j) : ∀ k, b = some k → a ≠ some k := fun k hk => by
  obtain ⟨h1, rfl⟩ := List.getElem?_eq_some_iff.1 hi
  obtain ⟨h2, rfl⟩ := List.getElem?_eq_some_iff.1 hj
  have hp := List.pairwise_iff_getElem.1 h.pw
  rcases Nat.lt_or_gt_of_ne hij with h3 | h3
  · exact fun e => hp i j h1 h2 h3 k e hk
  · exact hp j i h2 h1 h3 k hk
/-- One of the slices is let go: nothing is built in it any more. -/
theorem Fr.drop {i : Nat} {b : Nat} (h : Fr O b) : Fr (O.set i none) b := fun x hx => by
  rcases List.mem_or_eq_of_mem_set hx with h1 | h1
  · exact h x h1
  · subst h1; simp
theorem Dis.drop {s i : Nat} (h : Dis s O) : Dis s (O.set i none) := by
  refine ⟨fun x hx k e => ?_, ?_⟩
  · rcases List.mem_or_eq_of_mem_set hx with h1 | h1
    · exact h.lt x h1 k e
    · subst h1; cases e
  · rw [List.pairwise_iff_getElem]
    intro a b ha hb hab k hk
    simp only [List.length_set] at ha hb
    have hp := List.pairwise_iff_getElem.1 h.pw a b ha hb hab k
    rw [List.getElem_set] at hk ⊢
    by_cases e1 : i = a
    · rw [if_pos e1] at hk; cases hk
    · rw [if_neg e1] at hk
      split
      · simp
      · exact hp hk
theorem Fr.dropped {i : Nat} {s b : Nat} {o : Option Nat} (hd : Dis s O) (hi : O[i]? = some o) (hb : o = some b) : Fr (O.set i none) b := fun x hx => by
  obtain ⟨j, hj, rfl⟩ := List.getElem_of_mem hx
  simp only [List.length_set] at hj
  rw [List.getElem_set]
  split
  · simp
  · next h => exact hd.ne (i := j) (j := i) (by rw [List.getElem?_eq_getElem hj]) hi (fun e => h e.symm) b hb
/-- A new block is taken into O. -/
theorem Fr.fresh {i s b : Nat} (h : Fr O b) (hb : b < s) : Fr (O.set i (some s)) b := fun x hx => by
  rcases List.mem_or_eq_of_mem_set hx with h1 | h1
  · exact h x h1
  · subst h1; intro e; injection e with e; omega
theorem Dis.fresh {i s : Nat} (h : Dis s O) : Dis (s + 1) (O.set i (some s)) := by
  refine ⟨fun x hx k e => ?_, ?_⟩
  · rcases List.mem_or_eq_of_mem_set hx with h1 | h1
    · have := h.lt x h1 k e; omega
    · subst h1; injection e with e; omega
  · rw [List.pairwise_iff_getElem]
    intro a b ha hb hab k hk
    simp only [List.length_set] at ha hb
    have hp := List.pairwise_iff_getElem.1 h.pw a b ha hb hab k
    rw [List.getElem_set] at hk ⊢
    by_cases e1 : i = a
    · rw [if_pos e1] at hk
      injection hk with hk
      subst hk
      by_cases e2 : i = b
      · omega
      · rw [if_neg e2]
        intro e
        exact absurd (h.lt _ (List.getElem_mem hb) _ e) (Nat.lt_irrefl _)
    · rw [if_neg e1] at hk
      split
      · intro e; injection e with e
        have := h.lt _ (List.getElem_mem ha) _ hk
        omega
      · exact hp hk
theorem Fr.above {s b : Nat} (h : Dis s O) (hb : s ≤ b) : Fr O b := fun x hx e => by have := h.lt x hx b e; omega
/-- A store into a block of O. -/
theorem Step.put {g : Nat} (hd : Dis w.heap.size O) (hg : some g ∈ O) (hgr : w.grownBy w' (some g)) : Step O O w w' (some g) := ⟨hgr, hg, fun _ _ h => h, hd.up hgr.size⟩
end
end Go.Proofs.Ytgbipfohcailnaa
/- slices.Index where there is none, slices.Contains. -/
namespace Go.Proofs.Ytgbipfohcailnaa
set_option linter.unusedVariables false
set_option linter.unusedSimpArgs false
open Go.RowKit

theorem index_not (A : Option Addr) (n c : Nat) (us : List Nat) (x : Nat) (w : World) (ha : IL w A n (zs us)) (hx : x ∉ us) :
    Calls Try.prog 56 #[.slice A n c, .int .i64 x] w fun e w' => e = .returned (.int .i64 (-1)) ∧ w = w' := by
  have hna := ha.small
  have HL : Hid (us.length = n) := by have := ha.len; rwa [zs_length] at this
  have HX := hide hx
  clear hx
  go_enter Try.func56, Try.ntmps56
  go_wp2
  go_loop [8] (fun i => ∃ k : Nat, k ≤ n ∧ i = .int .i64 k) (fun i => n - (intOf i).toNat)
  case atStart => exact ⟨0, Nat.zero_le _, rfl⟩
  case round =>
    obtain ⟨k, hk, rfl⟩ := hrel
    by_cases hlt : k < n
    · obtain ⟨ad, rfl, hca⟩ := ha.at_ hlt
      rw [zs_getD] at hca
      have he : us.getD k 0 ≠ x := fun e => HX.out (by rw [← e]; exact getD_mem (by rw [HL.out]; exact hlt))
      have hb : ((x : Int) == ((us.getD k 0 : Nat) : Int)) = false := by
        have : ¬ (x : Int) = ((us.getD k 0 : Nat) : Int) := fun e => he (by omega)
        simpa using this
      clear he
      generalize us.getD k 0 = y at *
      go_wp2
      go_round
      case rel => exact ⟨k + 1, by omega, by go_num⟩
      case measure => simp [intOf]; omega
    · go_wp2
      go_ret
      exact ⟨rfl, rfl⟩
theorem contains_any (A : Option Addr) (n c : Nat) (us : List Nat) (x : Nat) (w : World) (ha : IL w A n (zs us)) :
    Calls Try.prog 37 #[.slice A n c, .int .i64 x] w fun e w' => e = .returned (.bool (us.contains x)) ∧ w = w' := by
  by_cases hx : x ∈ us
  · have HX : Hid (us.contains x = true) := hide (by simpa using hx)
    have HI := hide (index_mem A n c us x w ha hx)
    have hlt := idxOf_lt hx
    clear ha hx
    go_enter Try.func37, Try.ntmps37
    go_wp2_with fail
    refine HI.out.mono ?_
    rintro e w1 ⟨rfl, rfl⟩
    have hg : decide ((0 : Int) ≤ ((us.idxOf x : Nat) : Int)) = true := decide_eq_true (by omega)
    generalize us.idxOf x = q at *
    clear HI
    go_wp2_with fail
    go_ret
    rw [HX.out]
    exact ⟨by simp, rfl⟩
  · have HX : Hid (us.contains x = false) := hide (by simpa using hx)
    have HI := hide (index_not A n c us x w ha hx)
    clear ha hx
    go_enter Try.func37, Try.ntmps37
    go_wp2_with fail
    refine HI.out.mono ?_
    rintro e w1 ⟨rfl, rfl⟩
    clear HI
    go_wp2_with fail
    go_ret
    rw [HX.out]
    exact ⟨by simp, rfl⟩
end Go.Proofs.Ytgbipfohcailnaa
/- Closures that visit lists of numbers; timbref1.Permutations. -/
namespace Go.Proofs.Ytgbipfohcailnaa
set_option linter.unusedVariables false
set_option linter.unusedSimpArgs false
open Go.RowKit

theorem IL.kept {w w' : World} {A : Option Addr} {n : Nat} {xs : List Int} (h : IL w A n xs) {g : Nat} (hg : w.grownBy w' (some g)) (hne : ∀ ad, A = some ad → ad.block ≠ g) : IL w' A n xs :=
  ⟨h.len, h.small, fun hn => by
    obtain ⟨ad, e, hl, hc⟩ := h.mem hn
    refine ⟨ad, e, Nat.lt_of_lt_of_le hl hg.size, fun j hj => ?_⟩
    rw [hg.cell_far (ad.add j) (by rw [block_of_add]; exact hl) (by rw [block_of_add]; exact fun e' => hne ad e (by injection e'))]
    exact hc j hj⟩
theorem Blk.kept {w w' : World} {g k : Nat} {t : TypeId} {cs : Array Value} (h : Blk w k t cs) (hg : w.grownBy w' (some g)) (hne : k ≠ g) : Blk w' k t cs := h.grown hg (fun e => hne (by injection e))
theorem grownBy_of_below {w w' : World} (h : Below w.heap.size w w') (g : Option Nat) : w.grownBy w' g := ⟨h.os, h.tape, h.output, h.size, fun k hk _ => h.block k hk⟩

/-- The word for what is handed to a visiting closure: called with a list, it takes the state s to step s p. It changes block g alone. -/
structure Visit (P : Program) (fid : FuncId) (caps : List Value) (g : Nat) (σ : Type) (J : σ → World → Prop) (good : List Nat → Prop) (step : σ → List Nat → σ) : Prop where
  keep : ∀ s w w', J s w → Below w.heap.size w w' → J s w'
  lt : ∀ s w, J s w → g < w.heap.size
  call : ∀ (p : List Nat) (A : Option Addr) (n c : Nat) (s : σ) (w : World), SL w A n c (zs p) → (∀ ad, A = some ad → ad.block ≠ g) → good p → J s w →
    Calls P fid (.slice A n c :: caps).toArray w fun e w' => e = .returned (.tuple #[]) ∧ J (step s p) w' ∧ w.grownBy w' (some g)

/-- The lists that go on from p, k elements longer, of numbers below n that are not yet there. -/
def compl (n : Nat) : Nat → List Nat → List (List Nat)
  | 0, p => [p]
  | k + 1, p => ((List.range n).filter fun i => !p.contains i).flatMap fun i => compl n k (p ++ [i])

theorem compl_succ (n k : Nat) (p : List Nat) : compl n (k + 1) p = ((List.range n).filter fun i => !p.contains i).flatMap fun i => compl n k (p ++ [i]) := rfl
/-- What is visited by the first i rounds. -/
def complTo (n k : Nat) (p : List Nat) (i : Nat) : List (List Nat) := ((List.range i).filter fun i => !p.contains i).flatMap fun i => compl n k (p ++ [i])
theorem complTo_old {n k : Nat} {p : List Nat} {i : Nat} (h : p.contains i = true) : complTo n k p (i + 1) = complTo n k p i := by
  unfold complTo
  rw [List.range_succ, List.filter_append]
  have h2 : [i].filter (fun i => !p.contains i) = [] := by simp only [List.filter_cons, h]; rfl
  rw [h2, List.append_nil]
theorem complTo_new {n k : Nat} {p : List Nat} {i : Nat} (h : p.contains i = false) : complTo n k p (i + 1) = complTo n k p i ++ compl n k (p ++ [i]) := by
  unfold complTo
  rw [List.range_succ, List.filter_append]
  have h2 : [i].filter (fun i => !p.contains i) = [i] := by simp only [List.filter_cons, h]; rfl
  rw [h2, List.flatMap_append]
  simp

theorem ePermClone : ∀ args w, (callFunc 38 args).run Try.prog w = .ok (.enter 38 args) w := enters (fn := Try.f38) (by kernel_rfl) (by kernel_rfl) (by kernel_rfl)
theorem ePermX : ∀ args w, (callFunc 36 args).run Try.prog w = .ok (.enter 36 args) w := enters (fn := Try.f36) (by kernel_rfl) (by kernel_rfl) (by kernel_rfl)

section
variable {fid : FuncId} {caps : List Value} {g : Nat} {σ : Type} {J : σ → World → Prop} {step : σ → List Nat → σ} {n : Nat}
end
end Go.Proofs.Ytgbipfohcailnaa
/- timbref1.Permutations: all permutations, in order. -/
namespace Go.Proofs.Ytgbipfohcailnaa
set_option linter.unusedVariables false
set_option linter.unusedSimpArgs false
open Go.RowKit

theorem filter_ne_getD : ∀ {us : List Nat} {j : Nat}, us.Nodup → j < us.length → us.filter (fun x => !(x == us.getD j 0)) = us.take j ++ us.drop (j + 1)
  | u :: t, 0, hn, _ => by
    have hn' := List.nodup_cons.1 hn
    show (u :: t).filter (fun x => !(x == u)) = t
    rw [List.filter_cons]
    simp only [beq_self_eq_true, Bool.not_true, Bool.false_eq_true, if_false]
    exact List.filter_eq_self.2 fun x hx => by
      simp
      rintro rfl
      exact hn'.1 hx
  | u :: t, j + 1, hn, hj => by
    have hn' := List.nodup_cons.1 hn
    have hj' : j < t.length := by simpa using hj
    have e : (u :: t).getD (j + 1) 0 = t.getD j 0 := by simp [List.getD]
    rw [e, List.filter_cons]
    have hne : (u == t.getD j 0) = false := by
      have hm : t.getD j 0 ∈ t := getD_mem hj'
      simp
      intro h
      rw [List.getD_eq_getElem?_getD, ← h] at hm
      exact hn'.1 hm
    rw [hne]
    simp only [Bool.not_false, if_true]
    rw [filter_ne_getD hn'.2 hj']
    simp
theorem getD_cut (us : List Nat) (j b : Nat) (hj : j < us.length) : (us.take j ++ us.drop (j + 1)).getD b 0 = us.getD (CR.skip j b) 0 := by
  unfold CR.skip
  simp only [List.getD_eq_getElem?_getD, List.getElem?_append, List.length_take, List.getElem?_take, List.getElem?_drop]
  by_cases h : b < j
  · rw [if_pos (by omega), if_pos h, if_pos h]
  · rw [if_neg (by omega), if_neg h]
    congr 2
    omega
theorem flatMap_range {α : Type} (us : List Nat) (f : Nat → List α) : us.flatMap f = (List.range us.length).flatMap fun j => f (us.getD j 0) := by
  have e : us = (List.range us.length).map fun j => us.getD j 0 := by
    apply List.ext_getElem
    · simp
    · intro i h1 h2
      simp [List.getD, List.getElem?_eq_getElem h1]
  conv => lhs; rw [e]
  rw [List.flatMap_map]
theorem compl_perms (n : Nat) : ∀ (k : Nat) (p us : List Nat), (List.range n).filter (fun i => !p.contains i) = us → us.length = k → compl n k p = (permsN k).map fun q => p ++ q.map fun b => us.getD b 0
  | 0, p, us, h, hk => by simp [compl, permsN]
  | k + 1, p, us, h, hk => by
    have hn : us.Nodup := by rw [← h]; exact List.Nodup.sublist List.filter_sublist List.nodup_range
    rw [compl_succ, h, flatMap_range, hk]
    show _ = ((List.range (k + 1)).flatMap fun j => (permsN k).map fun q => j :: q.map (CR.skip j)).map _
    rw [List.map_flatMap]
    rw [List.flatMap_def, List.flatMap_def]
    congr 1
    apply List.map_congr_left
    intro j hj
    have hj' : j < us.length := by rw [hk]; exact List.mem_range.1 hj
    have e : (List.range n).filter (fun i => !(p ++ [us.getD j 0]).contains i) = us.take j ++ us.drop (j + 1) := by
      rw [← filter_ne_getD hn hj']
      conv => rhs; rw [← h]
      rw [List.filter_filter]
      apply List.filter_congr
      intro x _
      simp only [h]
      rw [Bool.eq_iff_iff]
      simp
      grind
    rw [compl_perms n k _ _ e (by simp; omega), List.map_map]
    apply List.map_congr_left
    intro q _
    simp only [Function.comp, List.map_cons, List.map_map]
    rw [List.append_assoc]
    congr 1
    show us.getD j 0 :: _ = us.getD j 0 :: _
    congr 1
    apply List.map_congr_left
    intro b _
    exact getD_cut us j b hj'
theorem compl_all (n : Nat) : compl n n [] = permsN n := by
  have h0 : (List.range n).filter (fun i => !([] : List Nat).contains i) = List.range n := List.filter_eq_self.2 fun x _ => rfl
  rw [compl_perms n n [] (List.range n) h0 (by simp)]
  have : ∀ q ∈ permsN n, ([] ++ q.map fun b => (List.range n).getD b 0) = q := fun q hq => by
    rw [List.nil_append]
    have h1 : q.map (fun b => (List.range n).getD b 0) = q.map id := List.map_congr_left fun b hb => by
      have : b ∈ List.range n := (permsN_perm hq).mem_iff.1 hb
      exact range_getD (List.mem_range.1 this)
    rw [h1, List.map_id]
  rw [List.map_congr_left this, List.map_id']

section
variable {fid : FuncId} {caps : List Value} {g : Nat} {σ : Type} {J : σ → World → Prop} {step : σ → List Nat → σ} {n : Nat}
end
end Go.Proofs.Ytgbipfohcailnaa
