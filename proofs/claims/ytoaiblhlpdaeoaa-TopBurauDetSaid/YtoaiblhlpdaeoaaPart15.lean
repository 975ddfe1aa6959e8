/- Several texts in one. -/
import Derived.Test.YtoaiblhlpdaeoaaPart14
import Derived.Test.YtoaiblhlpdaeoaaPart3
import Derived.Test.YtoaiblhlpdaeoaaPart1
import Derived.Test.YtoaiblhlpdaeoaaBase1
import Derived.Test.YtoaiblhlpdaeoaaPart6
import Derived.RangeFuncWrites
/- slices.Backward over integers, where a round knows that what it is handed is there. -/
namespace Go.Proofs.Ytoaiblhlpdaeoaa
set_option linter.unusedVariables false
set_option linter.unusedSimpArgs false
open Go.RowKit Go.Shelf
attribute [local go_sem] Oper.semAt_some

/-- An index and the number there. -/
abbrev BackZ (m : Nat) (V : Nat → Int → Prop) := { p : Nat × Int // p.1 < m ∧ V p.1 p.2 }
/-- These have come: the last ones, from the end. -/
def BackSZ {m : Nat} {V : Nat → Int → Prop} (ys : List (BackZ m V)) : Prop := ys.length ≤ m ∧ ∀ k y, ys[k]? = some y → y.1.1 = m - 1 - k
theorem BackSZ.snoc {m : Nat} {V : Nat → Int → Prop} {ys : List (BackZ m V)} (h : BackSZ ys) (hl : ys.length < m) {y : BackZ m V} (h1 : y.1.1 = m - 1 - ys.length) : BackSZ (ys ++ [y]) :=
  ⟨by simp; omega, fun k z hz => by
    by_cases hk : k < ys.length
    · rw [List.getElem?_append_left hk] at hz; exact h.2 k z hz
    · rw [List.getElem?_append_right (by omega)] at hz
      have hk2 : k = ys.length := by
        by_cases e : k - ys.length = 0
        · omega
        · rw [List.getElem?_eq_none (by simp; omega)] at hz; cases hz
      subst hk2
      simp at hz
      subst hz
      exact h1⟩

set_option maxRecDepth 100000 in
set_option maxHeartbeats 2000000 in
/-- The iterator, for every body that keeps what is read. -/
theorem backZ_in (F : Fence) (n : Nat) (hF : F.fn 104) (hro : F.round = none) (hn : 1 ≤ n) (l Bs : Nat) (V : Nat → Int → Prop) (A : Option Addr) (m c : Nat) (hm : m ≤ 17592186044416) (J Jx : List (BackZ m V) → World → Prop)
    (hY : ∀ pre x W, J pre W → pre.length < m → YieldAt F (n - 1) Try.prog l #[.int .i64 (x.1.1 : Int), .int .i64 x.1.2] W fun e W' =>
      (e = .returned (.bool true) ∧ J (pre ++ [x]) W' ∧ (BackR V Bs A m c W → BackR V Bs A m c W')) ∨ (e = .returned (.bool false) ∧ Jx (pre ++ [x]) W'))
    (W : World) (hR : BackR V Bs A m c W) (h0 : J [] W) :
    CallsIn F n Try.prog 104 #[.func (.yield l) #[] #[], .pointer (some ⟨Bs, 0, none⟩)] W fun e W' => (∃ v, e = .returned v) ∧
      ((∃ ys, (ys.length = m ∧ BackSZ ys) ∧ J ys W') ∨ (∃ pre, BackSZ pre ∧ Jx pre W')) := by
  have hbs := hR.1
  have HR := hide hR
  have hw1 : IntKind.i64.wrap ((m : Int) - 1) = (m : Int) - 1 := by rw [IntKind.wrap_i64]; omega
  clear hR
  refine callsIn_of_wp Try.func104 rfl hF ?_ hro
  simp only [Try.ntmps104, List.size_toArray, List.length_cons, List.length_nil, Nat.reduceAdd, Nat.reduceSub, Array.replicate_succ, Array.replicate_zero, List.push_toArray, List.append_toArray, List.nil_append, List.cons_append]
  gi_wp2
  gi_loopw [3] (fun iv wr => ∃ (k : Nat) (ys : List (BackZ m V)), k ≤ m ∧ iv = .int .i64 ((m : Int) - 1 - k) ∧ ys.length = k ∧ BackSZ ys ∧ J ys wr ∧ BackR V Bs A m c wr) (fun iv _ => (intOf iv + 1).toNat)
  case atStart => exact ⟨0, [], Nat.zero_le _, by simp, rfl, ⟨Nat.zero_le _, fun k y h => by simp at h⟩, h0, HR.out⟩
  case round =>
    obtain ⟨k, ys, hk, rfl, hys, hS, hJ, hR⟩ := hrel
    have hb2 := hR.1
    have HRR := hide hR
    have HS := hide hS
    have HJ := hide hJ
    have HY := hide hY
    clear hbs hR hS hJ
    by_cases hlt : k < m
    · obtain ⟨i, hi⟩ : ∃ i : Nat, m - 1 - k = i := ⟨_, rfl⟩
      have hi2 : (m : Int) - 1 - k = i := by omega
      obtain ⟨ad, v, hA, hcell, hV⟩ := HRR.out.2 i (by omega)
      subst hA
      rw [hi2]
      have him : i < m := by omega
      have hcond : decide ((0 : Int) ≤ i) = true := by simp
      obtain ⟨fn, tmps, assign, body, hy, hRR⟩ := HY.out ys ⟨(i, v), him, hV⟩ wr HJ.out (by omega)
      dsimp only at hy
      have HV := hide hV
      have HI := hide hi
      have HI2 := hide hi2
      clear hi hi2
      gi_wp2
      refine hRR.mono ?_
      rintro e W3 (⟨rfl, hJ3, hk3⟩ | ⟨rfl, hJx3⟩)
      · have HS3 := hide (HS.out.snoc (y := ⟨(i, v), him, hV⟩) (by omega) (by rw [hys, HI.out]))
        have HR3 := hide (hk3 HRR.out)
        have HJ3 := hide hJ3
        clear hk3 hJ3 hb2 hcell
        gi_wp2
        go_roundw
        case rel => exact ⟨k + 1, _, by omega, by have := HI2.out; simp; omega, by simp; omega, HS3.out, HJ3.out, HR3.out⟩
        case measure => simp [intOf]
      · have HS3 := hide (HS.out.snoc (y := ⟨(i, v), him, hV⟩) (by omega) (by rw [hys, HI.out]))
        gi_wp2
        refine bodyPost_ret (results_none rfl _ _ _) rfl ?_
        exact ⟨⟨_, rfl⟩, .inr ⟨_, HS3.out, hJx3⟩⟩
    · obtain rfl : k = m := by omega
      have hcond : decide ((0 : Int) ≤ (k : Int) - 1 - k) = false := by simp; omega
      gi_wp2
      go_end0
      exact ⟨⟨_, rfl⟩, .inl ⟨ys, ⟨hys, HS.out⟩, HJ.out⟩⟩

/-- slices.Backward hands over what it reads, from the end; the body keeps what is read. -/
theorem backZ_stops (F : Fence) (n : Nat) (hF : F.fn 104) (hro : F.round = none) (hn : 1 ≤ n) (Bs : Nat) (V : Nat → Int → Prop) (A : Option Addr) (m c : Nat) (hm : m ≤ 17592186044416) (w : World) (hR : ∀ W, Below w.heap.size w W → BackR V Bs A m c W) :
    SeqStopsK F n Try.prog 104 #[.pointer (some ⟨Bs, 0, none⟩)] (fun x : BackZ m V => #[Value.int .i64 (x.1.1 : Int), Value.int .i64 x.1.2]) (fun W W' => BackR V Bs A m c W → BackR V Bs A m c W') (fun ys => ys.length = m ∧ BackSZ ys) BackSZ m w := fun l J Jx W hW _ _ hY h0 =>
  backZ_in F n hF hro hn l Bs V A m c hm J Jx hY W (hR W hW) h0
theorem BackR.grown {V : Nat → Int → Prop} {Bs : Nat} {A : Option Addr} {m c : Nat} {W W' : World} (h : BackR V Bs A m c W) {b : Nat} (hg : W.grownBy W' (some b)) (hb : Bs ≠ b) (hA : 0 < m → ∀ ad, A = some ad → ad.block ≠ b) : BackR V Bs A m c W' := by
  have hk : ∀ {p : Addr} {v : Value}, W.cell? p = some v → p.block ≠ b → W'.cell? p = some v := fun {p v} hc hp => by
    have hlt : p.block < W.heap.size := by
      rcases Nat.lt_or_ge p.block W.heap.size with h1 | h1
      · exact h1
      · unfold World.cell? at hc
        rw [show W.heap[p.block]? = none by simpa using h1] at hc
        cases hc
    exact (World.cell?_of_block (w := W) (hg.block p.block hlt (fun e => hp (by injection e)))).trans hc
  exact ⟨hk h.1 hb, fun j hj => by
    obtain ⟨ad, v, h1, h2, h3⟩ := h.2 j hj
    exact ⟨ad, v, h1, hk h2 (by rw [block_of_add]; exact hA (by omega) ad h1), h3⟩⟩
end Go.Proofs.Ytoaiblhlpdaeoaa
/- timbkeep1.imaged; facts on images for ArtinFixes and ArtinRelations. -/
namespace Go.Proofs.Ytoaiblhlpdaeoaa
set_option linter.unusedVariables false
set_option linter.unusedSimpArgs false
open Go.RowKit

/-! ### facts -/
theorem artL_le {n : Nat} {y z : Int} (hy : y.natAbs < n) (hz : z.natAbs ≤ n) : ∀ x ∈ artL y z, x.natAbs ≤ n := by
  intro x hx
  unfold artL artV at hx
  (repeat' split at hx) <;> (try simp [invw] at hx) <;> omega
theorem artW_le {n : Nat} {y : Int} (hy : y.natAbs < n) {u : List Int} (hu : ∀ z ∈ u, z.natAbs ≤ n) : ∀ x ∈ artW y u, x.natAbs ≤ n := fun x hx => by
  unfold artW at hx
  obtain ⟨z, hz, hx⟩ := List.mem_flatMap.1 hx
  exact artL_le hy (hu z hz) x hx
theorem artC_le {n : Nat} : ∀ {w u : List Int}, okB n w → (∀ z ∈ u, z.natAbs ≤ n) → ∀ x ∈ artC w u, x.natAbs ≤ n
  | [], u, _, hu => hu
  | y :: w, u, hw, hu => by
    have hy := hw y (by simp)
    rw [artC_cons]
    exact artC_le (w := w) (fun z hz => hw z (by simp [hz])) (artW_le (by omega) hu)
/-- The image of a generator. -/
def imgX (w : List Int) (s : Nat) : List Int := nf (artC w [(s : Int) + 1])
end Go.Proofs.Ytoaiblhlpdaeoaa
/- Package artin: the images letter by letter, from the last letter on. -/
namespace Go.Proofs.Ytoaiblhlpdaeoaa
set_option linter.unusedVariables false
set_option linter.unusedSimpArgs false

theorem conjW_nf (p q : List Int) : conjW (nf p) (nf q) = nf (p ++ q ++ invw p) := by
  unfold conjW
  rw [← nf_invw, nf_right, nf_mid, List.append_assoc, nf_left, List.append_assoc]
theorem stepI_imgX {x : Int} (hx : x ≠ 0) {u : List Int} (hu : nz u) (j : Nat) : stepI x (imgX u) j = imgX (x :: u) j := by
  have z1 : ∀ {a : Nat}, 0 < a → nz [(a : Int)] := fun {a} h z hz => by simp at hz; omega
  by_cases hp : 0 < x
  · obtain ⟨a, rfl⟩ : ∃ a : Nat, x = (a : Int) := ⟨x.toNat, by omega⟩
    have ha : 0 < a := by omega
    unfold stepI imgX
    rw [if_pos hp, Int.natAbs_natCast, artC_cons, artW_one]
    by_cases h1 : j + 1 = a
    · subst h1
      rw [if_pos rfl, show ((j : Int) + 1) = ((j + 1 : Nat) : Int) by omega, artL_p ha, conjW_nf]
      have e : ([((j + 1 : Nat) : Int), ((j + 1 : Nat) : Int) + 1, -((j + 1 : Nat) : Int)] : List Int) = [((j + 1 : Nat) : Int)] ++ [((j + 1 : Nat) : Int) + 1] ++ invw [((j + 1 : Nat) : Int)] := rfl
      rw [e, artC_append, artC_append, artC_invw hu (z1 ha)]
    · rw [if_neg h1]
      by_cases h2 : j = a
      · subst h2
        rw [if_pos rfl, artL_p1 ha, show ((j - 1 : Nat) : Int) + 1 = (j : Int) by omega]
      · rw [if_neg h2, show ((j : Int) + 1) = ((j + 1 : Nat) : Int) by omega, artL_o (by simpa using h1) (by simpa using h2)]
  · obtain ⟨a, rfl⟩ : ∃ a : Nat, x = -(a : Int) := ⟨(-x).toNat, by omega⟩
    have ha : 0 < a := by omega
    unfold stepI imgX
    rw [if_neg hp, Int.natAbs_neg, Int.natAbs_natCast, artC_cons, artW_one]
    by_cases h1 : j + 1 = a
    · subst h1
      rw [if_pos rfl, show ((j : Int) + 1) = ((j + 1 : Nat) : Int) by omega, artL_n ha]
    · rw [if_neg h1]
      by_cases h2 : j = a
      · subst h2
        have hz : nz [(j : Int) + 1] := fun z hz => by simp at hz; omega
        rw [if_pos rfl, artL_n1 ha, show ((j - 1 : Nat) : Int) + 1 = (j : Int) by omega, ← nf_invw, conjW_nf, invw_invw]
        have e : ([-(j : Int) - 1, (j : Int), (j : Int) + 1] : List Int) = invw [(j : Int) + 1] ++ [(j : Int)] ++ [(j : Int) + 1] := by simp [invw]; omega
        rw [e, artC_append, artC_append, artC_invw hu hz]
      · rw [if_neg h2, show ((j : Int) + 1) = ((j + 1 : Nat) : Int) by omega, artL_o (by simpa using h1) (by simpa using h2)]
theorem imgX_small {n : Nat} (hn : n ≤ 6) {w : List Int} (hw : okB n w) {s : Nat} (hs : s < n) : smallL (imgX w s) := fun x hx => by
  have h := artC_le hw (u := [(s : Int) + 1]) (fun z hz => by simp at hz; omega) x (nf_mem hx)
  omega
theorem imgs_eq (n : Nat) (w : List Int) : imgs n w = (List.range n).map (imgX w) := rfl
theorem imgX_nil (s : Nat) : imgX [] s = [(s : Int) + 1] := rfl
/-- Is an image too long? -/
def bigA (n : Nat) (u : List Int) : Bool := (imgs n u).any fun v => decide (3000 < v.length)
theorem bigA_no {n : Nat} {u : List Int} (h : bigA n u = false) {s : Nat} (hs : s < n) : (imgX u s).length ≤ 3000 := by
  unfold bigA at h
  rw [List.any_eq_false] at h
  have := h (imgX u s) (by rw [imgs_eq]; exact List.mem_map.2 ⟨s, List.mem_range.2 hs, rfl⟩)
  simpa using this
theorem bigA_nil (n : Nat) : bigA n [] = false := by
  unfold bigA
  rw [List.any_eq_false]
  intro v hv
  rw [imgs_eq] at hv
  obtain ⟨s, _, rfl⟩ := List.mem_map.1 hv
  simp [imgX_nil]
theorem longA_yes {n : Nat} {w : List Int} {k : Nat} (hk : k ≤ w.length) (h : bigA n (w.drop k) = true) : longA n w = true := by
  unfold longA
  rw [List.any_eq_true]
  exact ⟨k, List.mem_range.2 (by omega), h⟩
theorem longA_no {n : Nat} {w : List Int} (h : ∀ k, k ≤ w.length → bigA n (w.drop k) = false) : longA n w = false := by
  unfold longA
  rw [List.any_eq_false]
  intro k hk
  have := h k (by have := List.mem_range.1 hk; omega)
  unfold bigA at this
  simp only [this]
  simp
/-- The word of the letters that have come, the last one first. -/
def wordZ {m : Nat} {V : Nat → Int → Prop} (ys : List (BackZ m V)) : List Int := (ys.map fun y => y.1.2).reverse
theorem wordZ_snoc {m : Nat} {V : Nat → Int → Prop} (ys : List (BackZ m V)) (y : BackZ m V) : wordZ (ys ++ [y]) = y.1.2 :: wordZ ys := by simp [wordZ]
theorem wordZ_drop {m : Nat} {xs : List Int} (hm : xs.length = m) {ys : List (BackZ m fun j v => v = xs.getD j 0)} (h : BackSZ ys) : wordZ ys = xs.drop (m - ys.length) := by
  have hl := h.1
  unfold wordZ
  refine List.ext_getElem (by simp; omega) fun k h1 h2 => ?_
  simp at h1
  rw [List.getElem_reverse, List.getElem_map, List.getElem_drop]
  have hk : (ys.map fun y => y.1.2).length - 1 - k < ys.length := by simp; omega
  have he := h.2 _ _ (List.getElem?_eq_getElem hk)
  have hv := (ys[(ys.map fun y => y.1.2).length - 1 - k]'hk).2.2
  simp only [List.length_map] at he hv hk ⊢
  rw [hv, he]
  have h5 : m - 1 - (ys.length - 1 - k) = m - ys.length + k := by omega
  rw [h5, List.getD_eq_getElem?_getD, List.getElem?_eq_getElem (show m - ys.length + k < xs.length by omega)]
  rfl
theorem wordZ_ok {n m : Nat} {xs : List Int} (hm : xs.length = m) (hx : okB n xs) (ys : List (BackZ m fun j v => v = xs.getD j 0)) : okB n (wordZ ys) := fun x hx2 => by
  unfold wordZ at hx2
  obtain ⟨y, _, rfl⟩ := List.mem_map.1 (List.mem_reverse.1 hx2)
  refine hx _ ?_
  rw [y.2.2, show xs.getD y.1.1 0 = xs[y.1.1]'(by have := y.2.1; omega) by simp [List.getD, List.getElem?_eq_getElem (show y.1.1 < xs.length by have := y.2.1; omega)]]
  exact List.getElem_mem _
end Go.Proofs.Ytoaiblhlpdaeoaa
/- Package artin: Images. -/
namespace Go.Proofs.Ytoaiblhlpdaeoaa
set_option linter.unusedVariables false
set_option linter.unusedSimpArgs false
open Go.RowKit Go.Shelf

theorem ImB.owned {w w' : World} {g n : Nat} {X : Nat → List Int} (h : ImB w g n X) {row : Option Nat} (hg : w.grownBy w' row) (hr : ∀ r, row = some r → ∃ o : Obj, w.heap[r]? = some o ∧ o.isCells = false) : ImB w' g n X := by
  obtain ⟨cs, hc⟩ := h.blk
  have hb : ∀ {b : Nat} {t : TypeId} {ds : Array Value}, Blk w b t ds → Blk w' b t ds := fun {b t ds} hbk => hbk.grown hg (fun e => by
    obtain ⟨o, h1, h2⟩ := hr b e.symm
    unfold Blk at hbk
    rw [hbk] at h1
    injection h1 with h1
    subst h1
    simp [Obj.isCells] at h2)
  refine ⟨⟨cs, hb hc⟩, fun j hj => ?_⟩
  obtain ⟨B, m, d, h1, h2, h3⟩ := h.at_ j hj
  refine ⟨B, m, d, cell_kept h1 hg hr, ⟨⟨h2.il.len, h2.il.small, fun hn => ?_⟩, h2.nil, h2.cap⟩, h3⟩
  obtain ⟨ad, e, hl, hcl⟩ := h2.il.mem hn
  exact ⟨ad, e, Nat.lt_of_lt_of_le hl hg.size, fun i hi => cell_kept (hcl i hi) hg hr⟩
theorem ImB.setFar {w : World} {g n b i : Nat} {X : Nat → List Int} {v : Value} (h : ImB w g n X) (hb : b < g) : ImB (w.setCell ⟨b, i, none⟩ v) g n X := by
  obtain ⟨cs, hc⟩ := h.blk
  refine ⟨⟨cs, hc.far (p := ⟨b, i, none⟩) (by show g ≠ b; omega) v⟩, fun j hj => ?_⟩
  obtain ⟨B, m, d, h1, h2, h3⟩ := h.at_ j hj
  refine ⟨B, m, d, ?_, h2.setCell (fun a1 a2 a3 => by have := h3 a1 a2 a3; omega) _ _, h3⟩
  rw [← h1]
  exact World.cell?_setCell_other (w := w) (a := ⟨b, i, none⟩) (b := ⟨g, j, none⟩) v (by intro e; have := congrArg Addr.block e; simp at this; omega)
theorem ImB.sll {w : World} {g n : Nat} {X : Nat → List Int} (h : ImB w g n X) (hn : n ≤ 1000) : SLL w (some ⟨g, 0, none⟩) n n ((List.range n).map X) :=
  ⟨by simp, by omega, fun e => (by cases e), Nat.le_refl _, fun _ => ⟨⟨g, 0, none⟩, rfl, h.lt, fun j hj => by
    obtain ⟨B, m, d, h1, h2, _⟩ := h.at_ j hj
    exact ⟨B, m, d, by rw [add_zero_block]; exact h1, by rw [show ((List.range n).map X).getD j [] = X j by simp [List.getD, hj]]; exact h2⟩⟩⟩
theorem ImB.ill {w : World} {g n : Nat} {X : Nat → List Int} (h : ImB w g n X) (hn : n ≤ 1000) : ILL w (some ⟨g, 0, none⟩) n ((List.range n).map X) := (h.sll hn).ill
theorem results_cc {fn : Func} {t u : Tmp} {b c : Nat} {v e : Value} {w : World} (h : fn.results = #[.cell t 26, .cell u 23]) (tmps : Array Value) (ht : tmps.getD t undef = .pointer (some ⟨b, 0, none⟩)) (hu : tmps.getD u undef = .pointer (some ⟨c, 0, none⟩))
    (hv : w.cell? ⟨b, 0, none⟩ = some v) (he : w.cell? ⟨c, 0, none⟩ = some e) : (results fn tmps).run Try.prog w = .ok (.tuple #[v, e]) w := by
  have ht2 : tmps[t]?.getD undef = .pointer (some ⟨b, 0, none⟩) := by simpa using ht
  have hu2 : tmps[u]?.getD undef = .pointer (some ⟨c, 0, none⟩) := by simpa using hu
  simp [results, h, ht2, hu2, go_sem, Result.andThen, hv, he]
end Go.Proofs.Ytoaiblhlpdaeoaa
/- Package artin: Images. -/
namespace Go.Proofs.Ytoaiblhlpdaeoaa
set_option linter.unusedVariables false
set_option linter.unusedSimpArgs false
open Go.RowKit Go.Shelf
attribute [local go_sem] Oper.semAt_some

theorem Blk.owned {w w' : World} {b : Nat} {t : TypeId} {ds : Array Value} (hbk : Blk w b t ds) {row : Option Nat} (hg : w.grownBy w' row) (hr : ∀ r, row = some r → ∃ o : Obj, w.heap[r]? = some o ∧ o.isCells = false) : Blk w' b t ds := hbk.grown hg (fun e => by
    obtain ⟨o, h1, h2⟩ := hr b e.symm
    unfold Blk at hbk
    rw [hbk] at h1
    injection h1 with h1
    subst h1
    simp [Obj.isCells] at h2)
/-- What a round of Images finds. -/
structure ImI (w : World) (N g b7 : Nat) (u : List Int) (W : World) : Prop where
  box : Blk W b7 26 #[.slice (some ⟨g, 0, none⟩) N N]
  img : ImB W g N (imgX u)
  r4 : Blk W w.heap.size 26 #[.slice none 0 0]
  r5 : Blk W (w.heap.size + 1) 23 #[.int .i64 0]
  base : Below w.heap.size w W
  nobig : ∀ k, k ≤ u.length → bigA N (u.drop k) = false
theorem ImI.owned {w A B : World} {N g b7 : Nat} {u : List Int} (h : ImI w N g b7 u A) {row : Option Nat} (hg : A.grownBy B row) (hr : ∀ r, row = some r → w.heap.size ≤ r ∧ ∃ o : Obj, A.heap[r]? = some o ∧ o.isCells = false) : ImI w N g b7 u B :=
  have hr2 : ∀ r, row = some r → ∃ o : Obj, A.heap[r]? = some o ∧ o.isCells = false := fun r e => (hr r e).2
  ⟨h.box.owned hg hr2, h.img.owned hg hr2, h.r4.owned hg hr2, h.r5.owned hg hr2, h.base.grown hg h.base.size (fun r e => (hr r e).1), h.nobig⟩

set_option maxRecDepth 100000 in
set_option maxHeartbeats 8000000 in
theorem aimages_any (m : Int) (A : Option Addr) (n c : Nat) (xs : List Int) (w : World) (ha : SL w A n c xs) (hm : (Lit.int .i64 m).wf = true) :
    Calls Try.prog 33 #[.int .i64 m, .slice A n c] w (GivesLLE w (artE m xs) (artI m xs)) := by
  have hla := ha.il.len
  have hns := ha.il.small
  have HL := hide hla
  have HIN := hide ha.inside
  have HWM := hide hm
  have hbw : Below w.heap.size w ((w.alloc (.cells #[.slice none 0 0] 26)).alloc (.cells #[.int .i64 0] 23)) := ((Below.refl _ _).alloc (Nat.le_refl _) _).alloc (by simp) _
  have h4 := (Blk.new w 26 #[.slice none 0 0]).alloc (.cells #[.int .i64 0] 23)
  have h5 := Blk.new (w.alloc (.cells #[.slice none 0 0] 26)) 23 #[.int .i64 0]
  simp only [World.size_alloc] at h5
  have HA := hide (ha.below hbw)
  have HW := hide hbw
  have B4 := hide h4
  have B5 := hide h5
  clear ha hbw h4 h5 hm hla
  obtain ⟨EE, hE⟩ : ∃ E, artE m xs = E := ⟨_, rfl⟩
  obtain ⟨VV, hV⟩ : ∃ V, artI m xs = V := ⟨_, rfl⟩
  have HE := hide hE
  have HV := hide hV
  rw [hE, hV]
  clear hE hV
  refine (callsIn_wide (n := 9)).1 (callsIn_of_wp_marks Try.func33 rfl trivial ?_ rfl)
  simp only [Try.ntmps33, List.size_toArray, List.length_cons, List.length_nil, Nat.reduceAdd, Nat.reduceSub, Array.replicate_succ, Array.replicate_zero, List.push_toArray, List.append_toArray, List.nil_append, List.cons_append]
  refine wpIn_wide.2 ?_
  go_upto_region 1 with fail
  obtain ⟨w0, hw0⟩ : ∃ x2, ((w.alloc (.cells #[.slice none 0 0] 26)).alloc (.cells #[.int .i64 0] 23)) = x2 := ⟨_, rfl⟩
  rw [hw0] at HA HW B4 B5 ⊢
  clear hw0
  go_wp2_with fail
  refine (bcheck_any m A n c xs _ HA.out HWM.out).mono ?_
  rintro e w1 ⟨rfl, hww⟩
  subst hww
  obtain ⟨f, hf⟩ : ∃ f, bfault m xs = f := ⟨_, rfl⟩
  rw [hf]
  have HF := hide hf
  clear hf
  have c4 := B4.out.cell 0
  have c5 := B5.out.cell 0
  have f4 := B4.out.frozen 0
  have f5 := B5.out.frozen 0
  simp at c4 c5
  by_cases h0 : f = 0
  case neg =>
    have HEE : Hid (EE = f) := hide (by rw [← HE.out]; unfold artE; rw [HF.out, if_pos h0])
    have HVV : Hid (VV = []) := hide (by rw [← HV.out]; unfold artI; rw [HE.out, HEE.out, if_neg h0])
    have hne : (f != 0) = true := by simpa using h0
    have k4 := B4.out.set_ 0 (.slice none 0 0)
    have K4 := hide (k4.far (p := ⟨w.heap.size + 1, 0, none⟩) (by show w.heap.size ≠ w.heap.size + 1; omega) (.int .i64 f))
    have K5 := hide ((B5.out.far (p := ⟨w.heap.size, 0, none⟩) (by show w.heap.size + 1 ≠ w.heap.size; omega) (.slice none 0 0)).set_ 0 (.int .i64 f))
    have HWW := hide ((HW.out.setCell (p := ⟨w.heap.size, 0, none⟩) (Nat.le_refl _) (.slice none 0 0)).setCell (p := ⟨w.heap.size + 1, 0, none⟩) (by simp) (.int .i64 f))
    have c5' : (w0.setCell ⟨w.heap.size, 0, none⟩ (.slice none 0 0)).cell? ⟨w.heap.size + 1, 0, none⟩ = some (.int .i64 0) := by
      rw [← c5]; exact World.cell?_setCell_other (w := w0) (a := ⟨w.heap.size, 0, none⟩) (b := ⟨w.heap.size + 1, 0, none⟩) _ (by intro e; have := congrArg Addr.block e; simp at this)
    clear k4
    go_wp2_with fail
    refine ⟨_, results_cc (b := w.heap.size) (c := w.heap.size + 1) rfl _ rfl rfl (K4.out.cell 0) (K5.out.cell 0), ?_⟩
    rw [HEE.out, HVV.out]
    exact ⟨none, 0, 0, rfl, SLL.nil_ _, HWW.out⟩
  subst h0
  have hz := bfault_zero HF.out
  obtain ⟨N, hN⟩ : ∃ N : Nat, m = (N : Int) := ⟨m.toNat, by omega⟩
  subst hN
  have hN1 : 1 ≤ N := by omega
  have hN6 : N ≤ 6 := by omega
  have HOK : Hid (okB N xs) := hide (okB_of (n := N) (fun x hx => by have := hz.2.2.2 x hx; omega))
  have hn30 : n ≤ 30 := by have := hz.2.2.1; rw [HL.out] at this; exact this
  clear hz
  have hlg : w.heap.size + 1 < w0.heap.size := B5.out.lt
  go_wp2_with fail
  refine (agen_any N w0 hN6).mono ?_
  rintro e w1 ⟨rfl, hgi, hb1⟩
  replace HA := hide (HA.out.below hb1)
  replace HW := hide (HW.out.trans (hb1.mono HW.out.size))
  replace B4 := hide (B4.out.below hb1 B4.out.lt)
  replace B5 := hide (B5.out.below hb1 B5.out.lt)
  have HG := hide hgi
  obtain ⟨g, hg⟩ : ∃ g, w0.heap.size = g := ⟨_, rfl⟩
  rw [hg] at hlg HG ⊢
  clear hgi hb1 c4 c5 f4 f5 hg
  have hgw := HG.out.lt
  go_upto_region 5 with fail
  have hbx : Below w1.heap.size w1 (w1.alloc (.cells #[.slice (some ⟨g, 0, none⟩) N N] 26)) := (Below.refl _ _).alloc (Nat.le_refl _) _
  have h7 := Blk.new w1 26 #[.slice (some ⟨g, 0, none⟩) N N]
  obtain ⟨b7, hb7⟩ : ∃ b, w1.heap.size = b := ⟨_, rfl⟩
  have hg7 : g < b7 := by omega
  obtain ⟨w2, hw2⟩ : ∃ x, w1.alloc (.cells #[.slice (some ⟨g, 0, none⟩) N N] 26) = x := ⟨_, rfl⟩
  rw [hw2] at hbx h7 ⊢
  rw [hb7] at h7 ⊢
  replace HA := hide (HA.out.below hbx)
  replace HW := hide (HW.out.trans (hbx.mono HW.out.size))
  replace B4 := hide (B4.out.below hbx B4.out.lt)
  replace B5 := hide (B5.out.below hbx B5.out.lt)
  replace HG := hide (HG.out.below hbx)
  have B7 := hide h7
  clear hbx h7 hw2 hb7 hgw
  go_wp2_with fail
  refine (backF_any A n c _).mono ?_
  rintro e w3 ⟨rfl, rfl⟩
  go_wp2_with fail
  have hbb : Below w2.heap.size w2 (w2.alloc (.cells #[.slice A n c] 22)) := (Below.refl _ _).alloc (Nat.le_refl _) _
  have h8 := Blk.new w2 22 #[.slice A n c]
  obtain ⟨b8, hb8⟩ : ∃ b, w2.heap.size = b := ⟨_, rfl⟩
  have hl78 : b7 < b8 := by have := B7.out.lt; omega
  obtain ⟨w3, hw3⟩ : ∃ x, w2.alloc (.cells #[.slice A n c] 22) = x := ⟨_, rfl⟩
  rw [hw3] at hbb h8 ⊢
  rw [hb8] at h8 ⊢
  replace HA := hide (HA.out.below hbb)
  replace HW := hide (HW.out.trans (hbb.mono HW.out.size))
  replace B4 := hide (B4.out.below hbb B4.out.lt)
  replace B5 := hide (B5.out.below hbb B5.out.lt)
  replace B7 := hide (B7.out.below hbb B7.out.lt)
  replace HG := hide (HG.out.below hbb)
  have B8 := hide h8
  have hl8 : b8 < w3.heap.size := h8.lt
  clear hbb h8 hw3 hb8
  have HI0 : Hid (ImI w N g b7 [] w3) := hide ⟨B7.out, HG.out.congr (fun j hj => (imgX_nil j).symm), B4.out, B5.out, HW.out, fun k hk => by
    obtain rfl : k = 0 := by simpa using hk
    exact bigA_nil N⟩
  refine (wpIn_wide (n := 9)).1 (wpIn_rangeFunc_ownG rfl (by decide) (gf := 104) (lb := #[.pointer (some ⟨b8, 0, none⟩)]) rfl trivial eBackX
    (backZ_stops Fence.wide (9 - 1) trivial rfl (by decide) b8 (fun j v => v = xs.getD j 0) A n c hns w3 (fun W hW => BackR.ofIL (by have h := (B8.out.below hW B8.out.lt).cell 0; simpa using h) (HA.out.below hW).il))
    (fun h k hr => k (h hr)) (fun W l o o' _ h ho _ => backK_b W l o o' h ho) (Below.refl _ _) (fun _ => rfl)
    (fun pre W => ImI w N g b7 (wordZ pre) W)
    (fun c pre W => c = .ret ∧ Blk W w.heap.size 26 #[.slice none 0 0] ∧ Blk W (w.heap.size + 1) 23 #[.int .i64 2] ∧ bigA N (wordZ pre) = true ∧ Below w.heap.size w W)
    (fun s A B row hs hg hr => ImI.owned hs hg (fun r e => ⟨by have := (hr r e).1; have := HW.out.size; omega, (hr r e).2⟩))
    (fun c s A B row hs hg hr => ⟨hs.1, hs.2.1.owned hg (fun r e => (hr r e).2), hs.2.2.1.owned hg (fun r e => (hr r e).2), hs.2.2.2.1, hs.2.2.2.2.grown hg hs.2.2.2.2.size (fun r e => by have := (hr r e).1; have := HW.out.size; omega)⟩)
    HI0.out
    (fun p => { tmps := #[.int .i64 N, .slice A n c, undef, undef, .pointer (some ⟨w.heap.size, 0, none⟩), .pointer (some ⟨w.heap.size + 1, 0, none⟩), .int .i64 0, .pointer (some ⟨b7, 0, none⟩), undef, .int .i64 p.1.2,
        .int .i64 N, .slice A n c, .int .i64 0, .int .i64 0, .bool false, undef, .int .i64 N, .slice (some ⟨g, 0, none⟩) N N, .slice A n c, .func (.func 104) #[] #[.pointer (some ⟨b8, 0, none⟩)], .int .i64 p.1.1, .int .i64 p.1.2, undef, undef, undef, undef, undef, undef], defers := [] }) ?assign ?body ?done ?stop)
  case assign =>
    intro l p W K hK
    gi_wp2
    exact hK
  case body =>
    rintro l pre p W hI _
    have hc7 := hI.box.cell 0
    simp at hc7
    have HI := hide hI
    clear hI
    have HOP := hide (wordZ_ok HL.out HOK.out (pre ++ [p]))
    have hx := HOP.out p.1.2 (by rw [wordZ_snoc]; simp)
    have hwz := wordZ_snoc pre p
    have hOK0 : okB N (wordZ pre) := wordZ_ok HL.out HOK.out pre
    have HPUT := hide (aput_any g N (imgX (wordZ pre)) p.1.2 W HI.out.img (by omega) (by omega) hN6 (fun j hj => ⟨imgX_small hN6 hOK0 hj, bigA_no (HI.out.nobig 0 (Nat.zero_le _)) hj⟩))
    have HST : Hid (∀ j, j < N → stepI p.1.2 (imgX (wordZ pre)) j = imgX (wordZ (pre ++ [p])) j) := hide (fun j _ => by rw [hwz]; exact stepI_imgX (by omega) (okB_nz hOK0) j)
    have HNB : Hid (bigA N (wordZ (pre ++ [p])) = false → ∀ k, k ≤ (wordZ (pre ++ [p])).length → bigA N ((wordZ (pre ++ [p])).drop k) = false) := hide (fun h k hk => by
      match k, hk with
      | 0, _ => exact h
      | k + 1, hk =>
        rw [hwz] at hk ⊢
        exact HI.out.nobig k (by simpa using hk))
    obtain ⟨u2, hu2⟩ : ∃ u, wordZ (pre ++ [p]) = u := ⟨_, rfl⟩
    rw [hu2] at HST HNB HOP
    have HU2 := hide hu2
    clear hu2 hwz hOK0 hx
    gi_wp2
    refine ⟨trivial, (CallsIn.inRound l (callsIn_wide.2 HPUT.out)).mono ?_⟩
    rintro e W4 ⟨rfl, hm4, hg4⟩
    have hm5 := hm4.congr HST.out
    have HM := hide hm5
    have HG4 := hide hg4
    have B74 := hide (HI.out.box.grown hg4 (by intro h; injection h with h; omega))
    have B44 := hide (HI.out.r4.grown hg4 (by intro h; injection h with h; omega))
    have B54 := hide (HI.out.r5.grown hg4 (by intro h; injection h with h; omega))
    have HBW := hide (HI.out.base.grown hg4 HI.out.base.size (fun r e => by injection e with e; omega))
    have HKF := hide (KeepsFrom.of_grownBy (B := w3.heap.size) hg4 (fun r e => by injection e with e; omega))
    have HCT := hide (aContains_any (some ⟨g, 0, none⟩) N N _ W4 (HM.out.ill (by omega)))
    rw [show (((List.range N).map (imgX u2)).any fun u => decide (3000 < u.length)) = bigA N u2 from rfl] at HCT
    obtain ⟨q, hq⟩ : ∃ q, bigA N u2 = q := ⟨_, rfl⟩
    rw [hq] at HCT HNB
    have HQ := hide hq
    have hc74 := B74.out.cell 0
    simp at hc74
    clear hc7 hm4 hm5 hg4 hq HPUT
    gi_wp2
    refine ⟨trivial, (CallsIn.inRound l (callsIn_wide.2 HCT.out)).mono ?_⟩
    rintro e W5 ⟨rfl, hww⟩
    subst hww
    cases q
    · gi_wp2
      refine ⟨HKF.out, fun hr => hr.grown HG4.out (by omega) (fun hn ad e => by have := HIN.out hn ad e; omega), by
        show ImI w N g b7 (wordZ (pre ++ [p])) W4
        rw [HU2.out]
        exact ⟨B74.out, HM.out, B44.out, B54.out, HBW.out, HNB.out (by trivial)⟩⟩
    · have c4 := B44.out.cell 0
      have f4 := B44.out.frozen 0
      have c5 := B54.out.cell 0
      have f5 := B54.out.frozen 0
      simp at c4 c5
      have c5' : (W4.setCell ⟨w.heap.size, 0, none⟩ (.slice none 0 0)).cell? ⟨w.heap.size + 1, 0, none⟩ = some (.int .i64 0) := by
        rw [← c5]; exact World.cell?_setCell_other (w := W4) (a := ⟨w.heap.size, 0, none⟩) (b := ⟨w.heap.size + 1, 0, none⟩) _ (by intro e; have := congrArg Addr.block e; simp at this)
      have f5' : (W4.setCell ⟨w.heap.size, 0, none⟩ (.slice none 0 0)).frozen? ⟨w.heap.size + 1, 0, none⟩ = false := (B54.out.far (p := ⟨w.heap.size, 0, none⟩) (by show w.heap.size + 1 ≠ w.heap.size; omega) (.slice none 0 0)).frozen 0
      have K4 := hide ((B44.out.set_ 0 (.slice none 0 0)).far (p := ⟨w.heap.size + 1, 0, none⟩) (by show w.heap.size ≠ w.heap.size + 1; omega) (.int .i64 2))
      have K5 := hide ((B54.out.far (p := ⟨w.heap.size, 0, none⟩) (by show w.heap.size + 1 ≠ w.heap.size; omega) (.slice none 0 0)).set_ 0 (.int .i64 2))
      have HWW := hide ((HBW.out.setCell (p := ⟨w.heap.size, 0, none⟩) (Nat.le_refl _) (.slice none 0 0)).setCell (p := ⟨w.heap.size + 1, 0, none⟩) (by simp) (.int .i64 2))
      have HKF2 := hide ((HKF.out.trans ((KeepsOthers.setCell W4 ⟨w.heap.size, 0, none⟩ (.slice none 0 0)).from _)).trans ((KeepsOthers.setCell _ ⟨w.heap.size + 1, 0, none⟩ (.int .i64 2)).from _))
      gi_wp2
      exact ⟨HKF2.out, rfl, K4.out, K5.out, by rw [HU2.out]; exact HQ.out, HWW.out⟩
  case done =>
    rintro D ys W hD ⟨hlen, hS⟩ hI hK
    have hwd := wordZ_drop HL.out hS
    rw [hlen, Nat.sub_self, List.drop_zero] at hwd
    rw [hwd] at hI
    have HEE : Hid (EE = 0) := hide (by
      rw [← HE.out]
      unfold artE
      rw [HF.out, if_neg (by simp), Int.toNat_natCast, longA_no hI.nobig]
      rfl)
    have HVV : Hid (VV = (List.range N).map (imgX xs)) := hide (by
      rw [← HV.out]
      unfold artI
      rw [HE.out, HEE.out, if_pos rfl, Int.toNat_natCast]
      rfl)
    have HI := hide hI
    clear hI hwd hlen hS
    have c7 := HI.out.box.cell 0
    have c4 := HI.out.r4.cell 0
    have f4 := HI.out.r4.frozen 0
    have c5 := HI.out.r5.cell 0
    have f5 := HI.out.r5.frozen 0
    simp at c4 c5 c7
    have c5' : (W.setCell ⟨w.heap.size, 0, none⟩ (.slice (some ⟨g, 0, none⟩) N N)).cell? ⟨w.heap.size + 1, 0, none⟩ = some (.int .i64 0) := by
      rw [← c5]; exact World.cell?_setCell_other (w := W) (a := ⟨w.heap.size, 0, none⟩) (b := ⟨w.heap.size + 1, 0, none⟩) _ (by intro e; have := congrArg Addr.block e; simp at this)
    have f5' : (W.setCell ⟨w.heap.size, 0, none⟩ (.slice (some ⟨g, 0, none⟩) N N)).frozen? ⟨w.heap.size + 1, 0, none⟩ = false := (HI.out.r5.far (p := ⟨w.heap.size, 0, none⟩) (by show w.heap.size + 1 ≠ w.heap.size; omega) _).frozen 0
    have K4 := hide ((HI.out.r4.set_ 0 (.slice (some ⟨g, 0, none⟩) N N)).far (p := ⟨w.heap.size + 1, 0, none⟩) (by show w.heap.size ≠ w.heap.size + 1; omega) (.int .i64 0))
    have K5 := hide ((HI.out.r5.far (p := ⟨w.heap.size, 0, none⟩) (by show w.heap.size + 1 ≠ w.heap.size; omega) (.slice (some ⟨g, 0, none⟩) N N)).set_ 0 (.int .i64 0))
    have HWW := hide ((HI.out.base.setCell (p := ⟨w.heap.size, 0, none⟩) (Nat.le_refl _) (.slice (some ⟨g, 0, none⟩) N N)).setCell (p := ⟨w.heap.size + 1, 0, none⟩) (by simp) (.int .i64 0))
    have HM := hide ((HI.out.img.setFar (b := w.heap.size) (i := 0) (v := .slice (some ⟨g, 0, none⟩) N N) (by omega)).setFar (b := w.heap.size + 1) (i := 0) (v := .int .i64 0) (by omega))
    have HK2 := hide ((KeepsOthers.setCell _ ⟨w.heap.size + 1, 0, none⟩ (.int .i64 0)).same D _ ((KeepsOthers.setCell W ⟨w.heap.size, 0, none⟩ (.slice (some ⟨g, 0, none⟩) N N)).same D _ hK rfl) rfl)
    clear hK
    go_wp2_with fail
    refine ⟨by simp, .inl ⟨_, _, rfl, run_takeDeferred HK2.out, ?_⟩⟩
    have hkr : ∀ r, some D = some r → ∃ o : Obj, ((W.setCell ⟨w.heap.size, 0, none⟩ (.slice (some ⟨g, 0, none⟩) N N)).setCell ⟨w.heap.size + 1, 0, none⟩ (.int .i64 0)).heap[r]? = some o ∧ o.isCells = false := fun r e => by cases e; exact ⟨_, HK2.out, rfl⟩
    have hgp := grownBy_putObj' ((W.setCell ⟨w.heap.size, 0, none⟩ (.slice (some ⟨g, 0, none⟩) N N)).setCell ⟨w.heap.size + 1, 0, none⟩ (.int .i64 0)) D (.deferred none)
    refine ⟨_, results_cc (b := w.heap.size) (c := w.heap.size + 1) rfl _ rfl rfl ((K4.out.owned hgp hkr).cell 0) ((K5.out.owned hgp hkr).cell 0), ?_⟩
    rw [HEE.out, HVV.out]
    exact ⟨_, _, _, rfl, (HM.out.owned hgp hkr).sll (by omega), HWW.out.grown hgp HWW.out.size (fun r e => by cases e; have := HW.out.size; omega)⟩
  case stop =>
    rintro D c pre W _ hS ⟨rfl, h4, h5, hbig, hb⟩ hK
    have HEE : Hid (EE = 2) := hide (by
      rw [← HE.out]
      unfold artE
      rw [HF.out, if_neg (by simp), Int.toNat_natCast, longA_yes (k := n - pre.length) (by rw [HL.out]; omega) (by rw [← wordZ_drop HL.out hS]; exact hbig)]
      rfl)
    have HVV : Hid (VV = []) := hide (by rw [← HV.out]; unfold artI; rw [HE.out, HEE.out, if_neg (by decide)])
    have hgp := grownBy_putObj' W D (.deferred none)
    have hkr : ∀ r, some D = some r → ∃ o : Obj, W.heap[r]? = some o ∧ o.isCells = false := fun r e => by cases e; exact ⟨_, hK, rfl⟩
    gi_wp2
    refine ⟨by simp, .inl ⟨_, _, rfl, run_takeDeferred hK, ?_⟩⟩
    refine ⟨_, results_cc (b := w.heap.size) (c := w.heap.size + 1) rfl _ rfl rfl ((h4.owned hgp hkr).cell 0) ((h5.owned hgp hkr).cell 0), ?_⟩
    rw [HEE.out, HVV.out]
    exact ⟨none, 0, 0, rfl, SLL.nil_ _, hb.grown hgp hb.size (fun r e => by cases e; have := HW.out.size; omega)⟩
end Go.Proofs.Ytoaiblhlpdaeoaa
