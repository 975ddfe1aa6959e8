/- slices.Clone of a slice of rows. -/
import Derived.Test.YtgjblcfcbohjdaaDoorRowsM
import Derived.Test.YtgjblcfcbohjdaaDoorBase
namespace Go.Proofs.YtgjblcfcbohjdaaDoor
set_option linter.unusedVariables false
set_option linter.unusedSimpArgs false
open Go.RowKit

/-- The values are slices that read as the rows. -/
structure RowsS (w : World) (vs : List Value) (xss : List (List Int)) : Prop where
  len : vs.length = xss.length
  row : ∀ j, j < xss.length → ∃ B m d, vs[j]? = some (.slice B m d) ∧ SL w B m d (xss.getD j [])
theorem RowsS.below {w w' : World} {vs : List Value} {xss : List (List Int)} (h : RowsS w vs xss) (hb : Below w.heap.size w w') : RowsS w' vs xss := ⟨h.len, fun j hj => by
  obtain ⟨B, m, d, h1, h2⟩ := h.row j hj
  exact ⟨B, m, d, h1, h2.below hb⟩⟩
theorem RowsS.set_ {w : World} {vs : List Value} {xss : List (List Int)} {j : Nat} {B : Option Addr} {m d : Nat} {r : List Int} (h : RowsS w vs xss) (hs : SL w B m d r) : RowsS w (vs.set j (.slice B m d)) (xss.set j r) := by
  refine ⟨by simp [h.len], fun i hi => ?_⟩
  rw [List.length_set] at hi
  by_cases e : j = i
  · subst e
    refine ⟨B, m, d, by rw [List.getElem?_set_self (by rw [h.len]; exact hi)], ?_⟩
    have : (xss.set j r).getD j [] = r := by simp [List.getD, List.getElem?_set_self hi]
    rw [this]
    exact hs
  · obtain ⟨B', m', d', h1, h2⟩ := h.row i hi
    refine ⟨B', m', d', by rw [List.getElem?_set_ne e]; exact h1, ?_⟩
    have : (xss.set j r).getD i [] = xss.getD i [] := by simp [List.getD, List.getElem?_set_ne e]
    rw [this]
    exact h2
theorem OwnV.sll {w : World} {base n c : Nat} {A : Option Addr} {vs : List Value} {xss : List (List Int)} (h : OwnV w base A n c vs) (hr : RowsS w vs xss) : SLL w A n c xss := by
  have hl := h.len
  have hcap : (A = none → n = 0 ∧ c = 0) ∧ n ≤ c := by
    rcases h.own.2 with ⟨hv, h0⟩ | ⟨g, cap, cur, hv, _, _, hnc, _⟩
    · simp only [Value.slice.injEq] at hv
      exact ⟨fun _ => ⟨hv.2.1, hv.2.2⟩, by omega⟩
    · simp only [Value.slice.injEq, true_and] at hv
      exact ⟨fun e => (by rw [e] at hv; exact absurd hv.1 (by simp)), by omega⟩
  refine ⟨by rw [← hr.len]; exact hl, by have := h.small; omega, hcap.1, hcap.2, fun hn => ?_⟩
  obtain ⟨g, rfl, _⟩ := h.cellAt hn
  refine ⟨⟨g, 0, none⟩, rfl, (h.lt g rfl).2, fun j hj => ?_⟩
  obtain ⟨g', e, hc⟩ := h.cellAt hj
  injection e with e
  injection e with e
  subst e
  obtain ⟨B, m, d, h1, h2⟩ := hr.row j (by rw [← hr.len]; omega)
  exact ⟨B, m, d, by rw [show (⟨g, 0, none⟩ : Addr).add j = ⟨g, j, none⟩ by unfold Addr.add; split <;> simp_all, hc, h1], h2⟩
theorem OwnV.set_ {w : World} {base g n c : Nat} {vs : List Value} (h : OwnV w base (some ⟨g, 0, none⟩) n c vs) (j : Nat) (u : Value) : OwnV (w.setCell ⟨g, j, none⟩ u) base (some ⟨g, 0, none⟩) n c (vs.set j u) := ⟨(h.own.stored j u).1, h.small⟩
theorem OwnV.frozen {w : World} {base g n c : Nat} {vs : List Value} (h : OwnV w base (some ⟨g, 0, none⟩) n c vs) (j : Nat) : w.frozen? ⟨g, j, none⟩ = false := h.own.frozenAt j

/-- append of a whole slice of rows. -/
theorem wpList_append_vals {P : Program} (w : World) {ops : Array Oper} {rest : List Oper} {o : Oper} {a : Act} {Q : Exit → Act → World → Prop} (hgd : o.guard = none) (s x : Operand) (t : TypeId)
    (ho : o.op = .call { callee := .builtin .append, args := #[s, x], argTypes := #[t, t] })
    (base : Nat) (i : TypeInfo) (ht : P.underlying t = some (.slice 28)) (hi : P.info? 28 = some i) (hz : i.zero = some (.slice none 0 0)) (hsize : i.size = 1) (hby : i.bytes = 24)
    (A : Option Addr) (n c : Nat) (vs : List Value) (hs : a.eval s = .slice A n c) (hown : OwnV w base A n c vs) (ad : Addr) (d : Nat) (us : List Value) (m : Nat) (hm : us.length = m) (hx : a.eval x = .slice (some ad) m d) (hu : ∀ j u, us[j]? = some u → w.cell? (ad.add j) = some u) (h1 : ∀ u, u ∈ us → u.oneCell' = true)
    (hsm : n + m ≤ 1000000) (hbase : base ≤ w.heap.size)
    (h : ∀ A' c' w', AppendedV w base A (n + m) c (vs ++ us) A' c' w' → wpList P ops Q rest (a.put o.dst (.slice A' (n + m) c')) w') : wpList P ops Q (o :: rest) a w :=
  wpList_plain hgd fun K hK => by
    obtain ⟨v', w', hrun, h2, h3, _, h5⟩ := run_append_own_at (P := P) w base t o.type 28 i (.slice none 0 0) 1 24 ht hi hz hsize hby rfl (by omega) (.slice A n c) n _ hown.own ad m d us
      (by simp [hm]) hu h1 (by simp only [maxLen]; omega) (by omega) hbase
    have hv : ∃ A' c', v' = .slice A' (n + m) c' := by
      rcases h2.2 with ⟨rfl, h0⟩ | ⟨g, cap, cur, rfl, _⟩
      · exact ⟨none, 0, by rw [h0]⟩
      · exact ⟨_, _, rfl⟩
    obtain ⟨A', c', rfl⟩ := hv
    unfold Oper.wp execOp
    simp only [ho, resolve, invoke, builtin, Sem.run_bind, Sem.run_pure, Result.andThen_ok, List.map_toArray, List.map_cons, List.map_nil, hs, hx, hrun]
    exact hK _ _ (h A' c' w' ⟨⟨h2, hsm⟩, by rw [ownBlock_len A (n + m) n c c]; exact h3, by rw [ownBlock_len A (n + m) n c c]; exact h5⟩)

set_option maxHeartbeats 1000000 in
theorem cloneRows_any (A : Option Addr) (n c : Nat) (xss : List (List Int)) (w : World) (ha : SLL w A n c xss) (h0 : 0 < n) (hn : n ≤ 1000) :
    Calls Tryd.prog 26 #[.slice A n c] w fun e w' => ∃ g c' vs, e = .returned (.slice (some ⟨g, 0, none⟩) n c') ∧ OwnV w' w.heap.size (some ⟨g, 0, none⟩) n c' vs ∧ RowsS w vs xss ∧ Below w.heap.size w w' := by
  obtain ⟨i0, hi0, hz0, hz1, hz2⟩ := info_parts rows_info
  obtain ⟨ad, rfl, hlt, hrow⟩ := ha.mem h0
  have hlen := ha.len
  obtain ⟨us, hus⟩ : ∃ us : List Value, us = (List.range n).map fun j => (w.cell? (ad.add j)).getD undef := ⟨_, rfl⟩
  have hul : us.length = n := by rw [hus]; simp
  have hug : ∀ j, j < n → us[j]? = w.cell? (ad.add j) := fun j hj => by
    obtain ⟨B, m, d, h1, _⟩ := hrow j hj
    rw [hus]
    simp [hj, h1]
  have HRS : Hid (RowsS w us xss) := hide ⟨by rw [hul, hlen], fun j hj => by
    obtain ⟨B, m, d, h1, h2⟩ := hrow j (by omega)
    exact ⟨B, m, d, by rw [hug j (by omega), h1], h2⟩⟩
  have hone : ∀ u, u ∈ us → u.oneCell' = true := fun u hu => by
    obtain ⟨j, hj, rfl⟩ := List.getElem_of_mem hu
    obtain ⟨B, m, d, h1, _⟩ := hrow j (by omega)
    have h2 := hug j (by omega)
    rw [List.getElem?_eq_getElem hj, h1] at h2
    injection h2 with h2
    rw [h2]
    rfl
  have hl0 : OwnV (w.alloc (.cells #[] 28)) w.heap.size (some ⟨w.heap.size, 0, none⟩) 0 0 [] := ⟨by
    have := World.ownsRow_lit (base := w.heap.size) (e := 28) (size := 1) w #[] 0 (Nat.le_refl _) (by unfold maxLen; omega) (by simp)
    simpa using this, by omega⟩
  have hu1 : ∀ j u, us[j]? = some u → (w.alloc (.cells #[] 28)).cell? (ad.add j) = some u := fun j u hu => by
    have hj : j < n := by have := (List.getElem?_eq_some_iff.1 hu).1; omega
    rw [((Below.refl w.heap.size w).alloc (Nat.le_refl _) (.cells #[] 28)).cell (p := ad.add j) (by rw [block_of_add]; exact hlt), ← hug j hj, hu]
  have hb1 : Below w.heap.size w (w.alloc (.cells #[] 28)) := (Below.refl _ _).alloc (Nat.le_refl _) _
  have hnil := fun (W : World) => Lib.run_eql_slice_nil (P := Tryd.prog) W 22 28 (some ad) n c 0 0 Tryd.underlying22
  have HU := hide hu1
  have HUL := hide hul
  have HONE := hide hone
  have HL0 := hide hl0
  clear ha hlt hrow hus hug hone hl0 hu1 hlen hul
  go_enter Tryd.func26, Tryd.ntmps26
  go_wp2_with (at_builtin; refine wpList_append_vals _ rfl (.tmp 5) (.tmp 6) 22 rfl w.heap.size i0 Tryd.underlying22 hi0 hz0 hz1 hz2 (some ⟨w.heap.size, 0, none⟩) 0 0 [] rfl HL0.out ad c us n HUL.out rfl HU.out HONE.out (by omega) (by simp) ?_; intro A9 c9 w9 happ)
  go_ret
  have ho := happ.own
  rw [List.nil_append, Nat.zero_add] at ho
  obtain ⟨g, hg, _⟩ := ho.cellAt h0
  subst hg
  refine ⟨g, c9, us, by simp, ho, HRS.out, hb1.grown happ.grown (by simp) (fun g hg => by simp [Value.ownBlock] at hg; omega)⟩
end Go.Proofs.YtgjblcfcbohjdaaDoor
