/- permgroup.chainOf. -/
import Derived.Test.YtnpdlfnhpghkmaaAdd
import Derived.Test.YtnpdlfnhpghkmaaBase
namespace Go.Proofs.Ytnpdlfnhpghkmaa
open Go.RowKit Go.Maps

/-- A slice of slices, to be read. -/
structure ILL (w : World) (A : Option Addr) (n : Nat) (xss : List (List Int)) : Prop where
  len : xss.length = n
  small : n ≤ 17592186044416
  mem : 0 < n → ∃ ad, A = some ad ∧ ad.block < w.heap.size ∧ ∀ j, j < n → ∃ B m d, w.cell? (ad.add j) = some (.slice B m d) ∧ IL w B m (xss.getD j [])
theorem ILL.at_ {w : World} {A : Option Addr} {n k : Nat} {xss : List (List Int)} (h : ILL w A n xss) (hk : k < n) : ∃ ad B m d, A = some ad ∧ w.cell? (ad.add k) = some (.slice B m d) ∧ IL w B m (xss.getD k []) := by
  obtain ⟨ad, e, _, hc⟩ := h.mem (by omega)
  obtain ⟨B, m, d, h1, h2⟩ := hc k hk
  exact ⟨ad, B, m, d, e, h1, h2⟩
theorem ILL.below {w w' : World} {A : Option Addr} {n : Nat} {xss : List (List Int)} (h : ILL w A n xss) (hb : Below w.heap.size w w') : ILL w' A n xss :=
  ⟨h.len, h.small, fun hn => by
    obtain ⟨ad, e, hl, hc⟩ := h.mem hn
    refine ⟨ad, e, Nat.lt_of_lt_of_le hl hb.size, fun j hj => ?_⟩
    obtain ⟨B, m, d, h1, h2⟩ := hc j hj
    exact ⟨B, m, d, (hb.cell (p := ad.add j) (by rw [block_of_add]; exact hl)).trans h1, h2.below hb⟩⟩

/-- The generators. -/
def zss (l : List (List Nat)) : List (List Int) := l.map zs
theorem zss_getD {l : List (List Nat)} {k : Nat} (hk : k < l.length) : (zss l).getD k [] = zs (l.getD k []) := by
  simp [zss, List.getD, List.getElem?_eq_getElem hk]

theorem extK_getD (g : List Nat) (k : Nat) {j : Nat} (hj : j < 9) : (extK g k).getD j 0 = if j < k then g.getD j 0 else j := by
  simp [extK, List.getD, hj]
theorem ext_PM {n : Nat} {g : List Nat} (hg : PM n g) (hn : n ≤ 9) : PM 9 (ext g) := by
  have hl : (ext g).length = 9 := extK_length _ _
  refine ⟨isP_of (fun j hj => ?_) (fun i j hi hj he => ?_), hl⟩
  · rw [hl] at hj ⊢
    unfold ext
    rw [extK_getD _ _ hj, hg.2]
    split
    · have := hg.lt (j := j) ‹_›
      omega
    · exact hj
  · rw [hl] at hi hj
    unfold ext at he
    rw [extK_getD _ _ hi, extK_getD _ _ hj, hg.2] at he
    by_cases h1 : i < n <;> by_cases h2 : j < n <;> simp only [h1, h2, if_true, if_false] at he
    · exact hg.inj h1 h2 he
    · have := hg.lt h1
      omega
    · have := hg.lt h2
      omega
    · exact he

/-- The chain's variable while it is filled. -/
def chK (c : Nat → Nat) (k : Nat) : Array Value := ((List.range 9).map fun j : Nat => Value.map (if j < k then some (c j) else none)).toArray
theorem chK_get (c : Nat → Nat) (k j : Nat) (hj : j < 9) : (chK c k)[j]? = some (.map (if j < k then some (c j) else none)) := by simp [chK, hj]
theorem chK_set (c : Nat → Nat) (k b : Nat) : (chK c k).setIfInBounds k (.map (some b)) = chK (fun j => if j = k then b else c j) (k + 1) := by
  apply Array.ext
  · simp [chK]
  intro i h1 h2
  simp only [chK, Array.getElem_setIfInBounds, List.getElem_toArray, List.getElem_map, List.getElem_range]
  by_cases h : k = i
  · subst h
    simp
  · by_cases h' : i < k
    · have h2 : i < k + 1 := by omega
      have h3 : ¬ i = k := by omega
      simp [h, h', h2, h3]
    · have h2 : ¬ i < k + 1 := by omega
      simp [h, h', h2]
theorem chK_nine (c : Nat → Nat) : chK c 9 = chA c := by
  unfold chK chA
  refine congrArg List.toArray ?_
  apply List.map_congr_left
  intro j hj
  have : j < 9 := by simpa using hj
  simp [this]
theorem info64 : (Try.prog.info? 64).map (fun i => (i.zero, i.size, i.bytes)) = some (some (.agg (chK (fun _ => 0) 0)), 9, 72) := by kernel_rfl

/-- The state of the first loop. -/
structure InitSt (w : World) (base gc g0 : Nat) (c : Nat → Nat) (k : Nat) : Prop where
  ch : Blk w gc 64 (chK c k)
  res : Blk w g0 64 (chK (fun _ => 0) 0)
  dict : ∀ i, i < k → Dict Try.prog 5 w (c i) 1 (lvF (L0 i))
  ne : ∀ i j, i < k → j < k → i ≠ j → c i ≠ c j
  bs : ∀ i, i < k → base ≤ c i

theorem InitSt.next {wr w2 w3 : World} {base gc g0 k : Nat} {c : Nat → Nat} (h : InitSt wr base gc g0 c k) (hB2 : Below wr.heap.size wr w2) (hg3 : w2.grownBy w3 (some wr.heap.size)) (hD3 : Dict Try.prog 5 w3 wr.heap.size 1 (lvF (L0 k))) (hb : base ≤ wr.heap.size) (hgg : g0 ≠ gc) :
    InitSt (w3.setCell ⟨gc, k, none⟩ (.map (some wr.heap.size))) base gc g0 (fun j => if j = k then wr.heap.size else c j) (k + 1) := by
  have hch2 : Blk w2 gc 64 (chK c k) := h.ch.below hB2 h.ch.lt
  have hch3 : Blk w3 gc 64 (chK c k) := hch2.grown hg3 (by have := h.ch.lt; simp; omega)
  have hr2 : Blk w2 g0 64 (chK (fun _ => 0) 0) := h.res.below hB2 h.res.lt
  have hr3 : Blk w3 g0 64 (chK (fun _ => 0) 0) := hr2.grown hg3 (by have := h.res.lt; simp; omega)
  refine ⟨?_, hr3.far (by simpa using hgg) _, fun i hi => ?_, fun i j hi hj hne => ?_, fun i hi => ?_⟩
  · rw [← chK_set]
    exact hch3.set_ k _
  · by_cases e : i = k
    · subst e
      simp only [if_true]
      exact hD3.setCell (by have := h.ch.lt; simp; omega) _
    · simp only [e, if_false]
      have hd := h.dict i (by omega)
      have hlt := hd.lt
      have hd3 : Dict Try.prog 5 w3 (c i) 1 (lvF (L0 i)) := (hd.below hB2).turned hg3 (by omega)
      exact hd3.setCell (fun e' => blk_ne_dict hch3 hd3 e'.symm) _
  · have l1 : ∀ i, i < k → c i < wr.heap.size := fun i hi => (h.dict i hi).lt
    by_cases e : i = k <;> by_cases e' : j = k <;> simp only [e, e', if_true, if_false]
    · omega
    · have := l1 j (by omega); omega
    · have := l1 i (by omega); omega
    · exact h.ne i j (by omega) (by omega) hne
  · by_cases e : i = k
    · simp only [e, if_true]; exact hb
    · simp only [e, if_false]; exact h.bs i (by omega)

theorem InitSt.done {w : World} {base gc g0 : Nat} {c : Nat → Nat} (h : InitSt w base gc g0 c 9) (hb : base ≤ w.heap.size) (hg : base ≤ gc) : CS (w.alloc (.cells #[.slice none 0 0] 84)) base gc w.heap.size c L0 [] := by
  have hb1 : Below w.heap.size w (w.alloc (.cells #[.slice none 0 0] 84)) := (Below.refl _ _).alloc (Nat.le_refl _) _
  refine ⟨?_, ⟨fun i hi => ?_, fun i j hi hj hne => h.ne i j hi hj hne⟩, ⟨none, 0, 0, Blk.new _ _ _, OwnE.nil_ _ _⟩, hg, hb, Nat.le_trans hb hb1.size, h.bs⟩
  · have := h.ch
    rw [chK_nine] at this
    exact this.below hb1 this.lt
  · rw [cnt_L0 hi]
    exact (h.dict i hi).below hb1

theorem gives_loadE {o : Oper} {a : Act} {w : World} {x : Operand} {g k : Nat} {e : List Nat} (ho : o.op = .load 69 x) (hx : a.eval x = .pointer (some ⟨g, k, none⟩)) (hg : w.rangeAt g k (elA e).toList) : Gives Try.prog o a w (.agg (elA e)) := by
  have := gives_loadMid (P := Try.prog) ho hx hg Try.underlying69 rfl (by rw [Array.length_toList]; exact size69 e)
  simpa using this
theorem OwnE.range {w : World} {base g n c j : Nat} {es : List (List Nat)} (h : OwnE w base (some ⟨g, 0, none⟩) n c es) (hj : j < n) : w.rangeAt g (j * 9) (elA (es.getD j [])).toList := by
  obtain ⟨g', e, hr⟩ := h.at_ hj
  injection e with e
  injection e with e
  subst e
  exact hr
theorem agg84 (w : World) : (isAgg 84).run Try.prog w = .ok false w := by kernel_rfl
theorem size69' (w : World) : (sizeOf 69).run Try.prog w = .ok 9 w := by kernel_rfl
theorem e56 : ∀ args w, (callFunc 56 args).run Try.prog w = .ok (.enter 56 args) w := enters (fn := Try.f56) (by kernel_rfl) (by kernel_rfl) (by kernel_rfl)
theorem e59 : ∀ args w, (callFunc 59 args).run Try.prog w = .ok (.enter 59 args) w := enters (fn := Try.f59) (by kernel_rfl) (by kernel_rfl) (by kernel_rfl)

/-- One pair: the product goes into the chain. -/
theorem LoopSt.pair {l : List (List Nat)} {L : Lv} {es : List (List Nat)} {m i a b : Nat} (h : LoopSt l L es m i) (hl : PMs 9 l) (hi : i ≤ es.length) (ha : a < es.length) (hb : b < es.length) {p : List Nat} (hp : comp (es.getD a []) (es.getD b []) = p) :
    PM 9 p ∧ LoopSt l (addL L p) (addE L es p) m i ∧ Ext L (addL L p) ∧ InS (addL L p) 9 p ∧ ∃ t, addE L es p = es ++ t := by
  subst hp
  have mem : ∀ a, a < es.length → es.getD a [] ∈ es := fun a ha => by
    rw [show es.getD a [] = es[a] by simp [List.getD, List.getElem?_eq_getElem ha]]
    exact List.getElem_mem ha
  obtain ⟨pa, ga⟩ := h.ci.eg _ (mem a ha)
  obtain ⟨pb, gb⟩ := h.ci.eg _ (mem b hb)
  obtain ⟨h1, h2, h3, t, h4⟩ := h.ci.add hl (ga.comp hl gb)
  refine ⟨pa.comp pb, ⟨h1, fun g hg => h2.inS 9 _ (Nat.le_refl _) (h.gens g hg), ?_⟩, h2, h3, t, h4⟩
  rw [h4]
  exact h.pairs.ext hi h2
theorem LoopSt.pm {l : List (List Nat)} {L : Lv} {es : List (List Nat)} {m i a : Nat} (h : LoopSt l L es m i) (ha : a < es.length) : PM 9 (es.getD a []) := by
  rw [show es.getD a [] = es[a] by simp [List.getD, List.getElem?_eq_getElem ha]]
  exact (h.ci.eg _ (List.getElem_mem ha)).1

/-- The inner loop's state. -/
structure InnSt (l : List (List Nat)) (L : Lv) (es : List (List Nat)) (m i j : Nat) : Prop where
  st : LoopSt l L es m i
  row : Row L es i j
  lt : i < es.length
theorem InnSt.both {l : List (List Nat)} {L : Lv} {es : List (List Nat)} {m i j : Nat} (h : InnSt l L es m i j) (hl : PMs 9 l) (hj : j < i + 1) :
    let p := comp (es.getD i []) (es.getD j [])
    let q := comp (es.getD j []) (es.getD i [])
    PM 9 p ∧ PM 9 q ∧ LvOK (addL L p) ∧ (addE L es p).length ≤ 36 ∧ i < (addE L es p).length ∧ (addE L es p).getD i [] = es.getD i [] ∧ (addE L es p).getD j [] = es.getD j [] ∧ InnSt l (addL (addL L p) q) (addE (addL L p) (addE L es p) q) m i (j + 1) := by
  intro p q
  have hlt := h.lt
  obtain ⟨pp, h1, e1, in1, t, ht⟩ := h.st.pair hl (by omega) hlt (show j < es.length by omega) (p := p) rfl
  have g1 : (addE L es p).getD i [] = es.getD i [] := by rw [ht]; exact getD_prefix hlt
  have g2 : (addE L es p).getD j [] = es.getD j [] := by rw [ht]; exact getD_prefix (by omega)
  have hl1 : es.length ≤ (addE L es p).length := by rw [ht]; simp
  have r1 : Row (addL L p) (addE L es p) i j := by rw [ht]; exact h.row.ext hlt (by omega) e1
  obtain ⟨pq, h2, e2, in2, t2, ht2⟩ := h1.pair hl (a := j) (b := i) (by omega) (by omega) (by omega) (p := q) (by rw [g1, g2])
  have r2 : Row (addL (addL L p) q) (addE (addL L p) (addE L es p) q) i j := by rw [show addE (addL L p) (addE L es p) q = addE L es p ++ t2 from ht2]; exact r1.ext (by omega) (by omega) e2
  have g3 : (addE (addL L p) (addE L es p) q).getD i [] = es.getD i [] := by rw [show addE (addL L p) (addE L es p) q = addE L es p ++ t2 from ht2, getD_prefix (by omega)]; exact g1
  have g4 : (addE (addL L p) (addE L es p) q).getD j [] = es.getD j [] := by rw [show addE (addL L p) (addE L es p) q = addE L es p ++ t2 from ht2, getD_prefix (by omega)]; exact g2
  have hl2 : (addE L es p).length ≤ (addE (addL L p) (addE L es p) q).length := by rw [show addE (addL L p) (addE L es p) q = addE L es p ++ t2 from ht2]; simp
  refine ⟨pp, pq, h1.ci.ok, h1.ci.len, by omega, g1, g2, h2, ⟨fun b hb => ?_, fun b hb => ?_⟩, by omega⟩
  · by_cases e : b = j
    · subst e
      rw [g3, g4]
      exact e2.inS 9 _ (Nat.le_refl _) in1
    · exact r2.l_ b (by omega)
  · by_cases e : b = j
    · subst e
      rw [g3, g4]
      exact in2
    · exact r2.r_ b (by omega)
theorem OwnE.some_ {w : World} {base n c : Nat} {A : Option Addr} {es : List (List Nat)} (h : OwnE w base A n c es) (hn : 0 < n) : ∃ g, A = some ⟨g, 0, none⟩ := by
  obtain ⟨g, e, _⟩ := h.at_ hn
  exact ⟨g, e⟩

theorem gens_PM {m : Nat} {gl : List (List Nat)} (h : PMs m gl) (hm : m ≤ 9) : PMs 9 (gl.map ext) := by
  intro g hg
  obtain ⟨x, hx, rfl⟩ := List.mem_map.1 hg
  exact ext_PM (h x hx) hm
theorem LoopSt.gen_next {l : List (List Nat)} {L : Lv} {es : List (List Nat)} {k : Nat} (h : LoopSt l L es k 0) (hl : PMs 9 l) (hk : k < l.length) : LoopSt l (addL L (l.getD k [])) (addE L es (l.getD k [])) (k + 1) 0 := by
  have hm : l.getD k [] = l[k] := by simp [List.getD, List.getElem?_eq_getElem hk]
  obtain ⟨h1, h2, h3, _⟩ := h.ci.add hl (Gen.of_mem hl (show l.getD k [] ∈ l by rw [hm]; exact List.getElem_mem hk))
  refine ⟨h1, fun g hg => ?_, ⟨fun a b ha => by omega⟩⟩
  rw [List.take_succ_eq_append_getElem hk] at hg
  rcases List.mem_append.1 hg with hg | hg
  · exact h2.inS 9 _ (Nat.le_refl _) (h.gens g hg)
  · obtain rfl : g = l[k] := by simpa using hg
    rw [hm] at h3
    rw [hm]
    exact h3

set_option maxRecDepth 100000 in
set_option maxHeartbeats 4000000 in
theorem chainOf_any (A : Option Addr) (n cp m : Nat) (gl : List (List Nat)) (w : World) (hg : ILL w A n (zss gl)) (hm : m ≤ 9) (hP : PMs m gl) :
    Calls Try.prog 37 #[.slice A n cp] w fun e w' => ∃ c L, e = .returned (.agg (chA c)) ∧ ChM w' c L ∧ LvOK L ∧ (∀ p, p ∈ enumS L 9 ↔ Gen 9 (gl.map ext) p) ∧ Below w.heap.size w w' := by
  have HG := hide hg
  have HP := hide hP
  have hmm := @run_makeMap Try.prog
  clear hg hP
  go_enter Try.func37, Try.ntmps37
  go_wp2_with fail
  have B0 : Blk ((w.alloc (Obj.cells (chK (fun _ => 0) 0) 64)).alloc (Obj.cells (chK (fun _ => 0) 0) 64)) w.heap.size 64 (chK (fun _ => 0) 0) := (Blk.new _ _ _).alloc _
  have B1 : Blk ((w.alloc (Obj.cells (chK (fun _ => 0) 0) 64)).alloc (Obj.cells (chK (fun _ => 0) 0) 64)) (w.heap.size + 1) 64 (chK (fun _ => 0) 0) := by
    have := Blk.new (w.alloc (Obj.cells (chK (fun _ => 0) 0) 64)) 64 (chK (fun _ => 0) 0)
    simpa using this
  have hb1 : Below w.heap.size w ((w.alloc (Obj.cells (chK (fun _ => 0) 0) 64)).alloc (Obj.cells (chK (fun _ => 0) 0) 64)) := ((Below.refl _ _).alloc (Nat.le_refl _) _).alloc (by simp) _
  change Code.wp _ _ _ _ ((w.alloc (Obj.cells (chK (fun _ => 0) 0) 64)).alloc (Obj.cells (chK (fun _ => 0) 0) 64))
  generalize (w.alloc (Obj.cells (chK (fun _ => 0) 0) 64)).alloc (Obj.cells (chK (fun _ => 0) 0) 64) = w1 at *
  go_loopw [11] (fun i wr => ∃ (k : Nat) (c : Nat → Nat), k ≤ 9 ∧ i = .int .i64 k ∧ InitSt wr (w.heap.size + 1) (w.heap.size + 1) w.heap.size c k ∧ Below w.heap.size w wr) (fun i _ => 9 - (intOf i).toNat)
  case atStart => exact ⟨0, fun _ => 0, Nat.zero_le _, rfl, ⟨B1, B0, fun i hi => by omega, fun i j hi => by omega, fun i hi => by omega⟩, hb1⟩
  case round =>
    obtain ⟨k, c, hk, rfl, hst, hnx⟩ := hrel
    clear B0 B1 hb1
    by_cases hlt : k < 9
    · have hsz : w.heap.size + 1 < wr.heap.size := hst.ch.lt
      have HST := hide hst
      have hs0 := hnx.size
      clear hst
      go_wp2_with fail
      refine (identity_any _).mono ?_
      rintro e w2 ⟨rfl, hb2⟩
      have hD0 : Dict Try.prog 5 w2 wr.heap.size 0 (fun _ => none) := (Dict.made wr Try.prog 5).below hb2
      have hB2 : Below wr.heap.size wr w2 := ((Below.refl _ _).alloc (Nat.le_refl _) _).trans (hb2.mono (by simp))
      have hz2 : wr.heap.size < w2.heap.size := by have := hb2.size; simp at this; omega
      have hcell : ∀ w3 : World, w2.grownBy w3 (some wr.heap.size) → w3.cell? ⟨w.heap.size + 1, k, none⟩ = some (.map none) ∧ w3.frozen? ⟨w.heap.size + 1, k, none⟩ = false := by
        intro w3 hg3
        have h1 : Blk w2 (w.heap.size + 1) 64 (chK c k) := HST.out.ch.below hB2 hsz
        have h2 : Blk w3 (w.heap.size + 1) 64 (chK c k) := h1.grown hg3 (by simp; omega)
        refine ⟨?_, h2.frozen k⟩
        rw [h2.cell k, chK_get c k k hlt]
        simp
      have HCELL := hide hcell
      clear hcell hb2 hmm
      go_wp2_with ((with_reducible show wpList _ _ _ (Oper.mk _ (.insert 62 _ _ _) _ _ _ _ :: _) _ _); refine wpList_mput _ rfl _ _ _ 62 (.inr rfl) 5 69 key5 Try.underlying62 wr.heap.size 0 _ rfl hD0 (by unfold maxLen; omega) (.int .u8 k) (.agg (elA idE)) _ rfl rfl (keyOf5 hlt) (lvF (L0 k)) (by rw [lvF_nat]; simp [L0, hlt]) (fun y l hk' hne => (lvF_other (f := fun _ => none) (fun z hz => by simp [L0, hz]) hk' hne).trans (by unfold lvF; split <;> rfl)) ?_; intro w3 hD3 hg3 hz3; have hc3 := (HCELL.out w3 hg3).1; have hf3 := (HCELL.out w3 hg3).2)
      go_roundw
      case rel => exact ⟨k + 1, _, by omega, by go_num, HST.out.next hB2 hg3 hD3 (by omega) (by omega), ((hnx.trans (hB2.mono hs0)).grown hg3 (Nat.le_trans hs0 hB2.size) (fun j hj => by cases hj; exact hs0)).setCell (by simp) _⟩
      case measure => simp [intOf]; omega
    · have h9 : k = 9 := by omega
      rw [h9] at hst
      clear h9
      have hs0 := hnx.size
      have hsz : w.heap.size + 1 < wr.heap.size := hst.ch.lt
      have hcs0 := hst.done (by omega) (Nat.le_refl _)
      have hres0 := hst.res.alloc (.cells #[.slice none 0 0] 84)
      have hB0 : Below w.heap.size w (wr.alloc (.cells #[.slice none 0 0] 84)) := hnx.alloc hs0 _
      have HPE := hide (gens_PM HP.out hm)
      have hgl : gl.length = n := by have := HG.out.len; simpa [zss] using this
      have HGL := hide hgl
      have hna := HG.out.small
      clear hst hmm hgl hnx
      go_wp2_with fail
      generalize wr.alloc (.cells #[.slice none 0 0] 84) = w2 at *
      generalize wr.heap.size = ge at *
      go_loopw [25] (fun i wr => ∃ (k : Nat) (L : Lv) (es : List (List Nat)), k ≤ n ∧ i = .int .i64 k ∧ CS wr (w.heap.size + 1) (w.heap.size + 1) ge c L es ∧ Hid (LoopSt (gl.map ext) L es k 0) ∧ Blk wr w.heap.size 64 (chK (fun _ => 0) 0) ∧ Below w.heap.size w wr) (fun i _ => n - (intOf i).toNat)
      case atStart => exact ⟨0, L0, [], Nat.zero_le _, rfl, hcs0, ⟨CInv.start _, fun g hg => by simp at hg, ⟨fun a b ha => by omega⟩⟩, hres0, hB0⟩
      case round =>
        obtain ⟨k, L, es, hk, rfl, hcs, hst, hres, hnx⟩ := hrel
        clear hcs0 hres0 hB0
        by_cases hltn : k < n
        · have hkl : k < (gl.map ext).length := by rw [List.length_map, HGL.out]; exact hltn
          have hg := HG.out.below hnx
          obtain ⟨ad, B, mm, d, rfl, hcl, hil⟩ := hg.at_ hltn
          rw [zss_getD (by rw [HGL.out]; exact hltn)] at hil
          have hgk : (gl.map ext).getD k [] = ext (gl.getD k []) := by
            simp [List.getD, List.getElem?_map, List.getElem?_eq_getElem (show k < gl.length by rw [HGL.out]; exact hltn)]
          have hpk : PM m (gl.getD k []) := by
            have : gl.getD k [] ∈ gl := by
              simp [List.getD, List.getElem?_eq_getElem (show k < gl.length by rw [HGL.out]; exact hltn)]
            exact HP.out _ this
          have HPK := hide hpk
          have HN := hide (hst.out.gen_next HPE.out hkl)
          rw [hgk] at HN
          have HLE := hide hst.out.ci.len
          have HOK := hide hst.out.ci.ok
          have hPE := ext_PM hpk hm
          have HPG := hide hPE
          clear hgk hpk hg hPE
          obtain ⟨g, hgg⟩ : ∃ g, gl.getD k [] = g := ⟨_, rfl⟩
          rw [hgg] at hil HPK HN HPG
          clear hgg
          go_wp2_with fail
          refine (elementOf_any B mm d g wr hil HPK.out.1 (by rw [HPK.out.2]; exact hm)).mono ?_
          rintro e w3 ⟨rfl, hb3⟩
          have hcs3 := hcs.below hb3
          have hres3 := hres.below hb3 hres.lt
          have hnx3 := hnx.trans (hb3.mono hnx.size)
          clear hcs hres hnx hb3 hcl hil
          go_wp2_with fail
          refine (add_any _ _ _ c L es (ext g) w3 HOK.out HPG.out hcs3 (by have := HLE.out; omega)).mono ?_
          rintro e w4 ⟨rfl, hcs4, hb4⟩
          have hres4 := hres3.below hb4 (by omega)
          have hnx4 := hnx3.trans (hb4.mono (by omega))
          clear hcs3 hres3 hnx3 hb4
          go_wp2_with fail
          go_roundw
          case rel => exact ⟨k + 1, _, _, by omega, by go_num, hcs4, HN.out, hres4, hnx4⟩
          case measure => simp [intOf]; omega
        · obtain rfl : k = n := by omega
          have HST := hide hst.out
          clear hst hltn
          go_wp2_with fail
          go_loopw [9] (fun iv wr => ∃ (i : Nat) (L : Lv) (es : List (List Nat)), iv = .int .i64 i ∧ i ≤ es.length ∧ CS wr (w.heap.size + 1) (w.heap.size + 1) ge c L es ∧ Hid (LoopSt (gl.map ext) L es k i) ∧ Blk wr w.heap.size 64 (chK (fun _ => 0) 0) ∧ Below w.heap.size w wr) (fun iv _ => 100 - (intOf iv).toNat)
          case atStart => exact ⟨0, L, es, rfl, Nat.zero_le _, hcs, HST.out, hres, hnx⟩
          case round =>
            clear hcs hres hnx HST
            obtain ⟨i, L, es, rfl, hile, hcs, hst, hres, hnx⟩ := hrel
            obtain ⟨A1, n1, cap1, hge1, how1⟩ := hcs.ent
            have hes := how1.len
            have hn36 : n1 ≤ 36 := by rw [← hes]; exact hst.out.ci.len
            have hcl1 : wr.cell? ⟨ge, 0, none⟩ = some (.slice A1 n1 cap1) := hge1.cell 0
            have hi100 : (i : Int) ≤ 36 := by omega
            by_cases hlti : i < n1
            · have hes' := hide hes
              have hhh : (i : Int) < (n1 : Int) := by omega
              clear hes how1 hge1
              go_wp2_with fail
              rename World => wo
              go_loopw [42] (fun jv wr => ∃ (j : Nat) (L : Lv) (es : List (List Nat)), jv = .int .i64 j ∧ j ≤ i + 1 ∧ CS wr (w.heap.size + 1) (w.heap.size + 1) ge c L es ∧ Hid (InnSt (gl.map ext) L es k i j) ∧ Blk wr w.heap.size 64 (chK (fun _ => 0) 0) ∧ Below w.heap.size w wr) (fun jv _ => 100 - (intOf jv).toNat)
              case atStart => exact ⟨0, L, es, rfl, Nat.zero_le _, hcs, ⟨hst.out, ⟨fun b hb => by omega, fun b hb => by omega⟩, by rw [hes'.out]; exact hlti⟩, hres, hnx⟩
              case round =>
                clear hcs hst hres hnx hcl1
                obtain ⟨j, L, es, rfl, hj1, hcs, hst, hres, hnx⟩ := hrel
                by_cases hltj : j < i + 1
                · have HB := hide (hst.out.both HPE.out hltj)
                  have HOK := hide hst.out.st.ci.ok
                  have HLE := hide hst.out.st.ci.len
                  have HLT := hide hst.out.lt
                  have HPI := hide (hst.out.st.pm hst.out.lt)
                  have HPJ := hide (hst.out.st.pm (a := j) (by have := hst.out.lt; omega))
                  clear hst
                  obtain ⟨A2, n2, cap2, hge2, how2⟩ := hcs.ent
                  have hes2 := how2.len
                  have hin : i < n2 := by have := HLT.out; omega
                  have hjn : j < n2 := by omega
                  obtain ⟨g2, rfl⟩ := how2.some_ (by omega)
                  have HN2 := hide hes2
                  clear hes2
                  go_wp2_with fail
                  refine wp_region_T (S := fun w' => Blk w' ge 84 #[.slice (some ⟨g2, 0, none⟩) n2 cap2] ∧ OwnE w' (w.heap.size + 1) (some ⟨g2, 0, none⟩) n2 cap2 es) 10 (by kernel_rfl) (⟨hge2, how2.below (Below.refl _ _).drew⟩) (fun hS => ?_)
                  refine wpT_tk 0 (v := Value.func (Fn.func 56) #[] #[.pointer (some ⟨w.heap.size + 1, 0, none⟩), .pointer (some ⟨ge, 0, none⟩)]) rfl (by kernel_rfl) (by kernel_rfl) (by kernel_rfl) (by kernel_rfl) (yi rfl fun w' hw' => gives_move (.inl rfl) rfl) hS ?_
                  go_frame
                  refine wpT_tk 1 (v := .slice (some ⟨g2, 0, none⟩) n2 cap2) rfl (by kernel_rfl) (by kernel_rfl) (by kernel_rfl) (by kernel_rfl) (yi rfl fun w' hw' => gives_load1 rfl (agg84 _) rfl (hw'.1.cell 0)) hS ?_
                  go_frame
                  refine wpT_tk 2 (v := .int .i64 i) rfl (by kernel_rfl) (by kernel_rfl) (by kernel_rfl) (by kernel_rfl) (yi rfl fun w' hw' => gives_move (.inl rfl) rfl) hS ?_
                  go_frame
                  refine wpT_tk 3 (v := .pointer (some ⟨g2, i * 9, none⟩)) rfl (by kernel_rfl) (by kernel_rfl) (by kernel_rfl) (by kernel_rfl) (yi rfl fun w' hw' => gives_indexB rfl Try.underlying84 size69' rfl rfl hin) hS ?_
                  go_frame
                  refine wpT_tk 4 (v := .agg (elA (es.getD i []))) rfl (by kernel_rfl) (by kernel_rfl) (by kernel_rfl) (by kernel_rfl) (yi rfl fun w' hw' => gives_loadE rfl rfl (hw'.2.range hin)) hS ?_
                  go_frame
                  refine wpT_tk 5 (v := .slice (some ⟨g2, 0, none⟩) n2 cap2) rfl (by kernel_rfl) (by kernel_rfl) (by kernel_rfl) (by kernel_rfl) (yi rfl fun w' hw' => gives_load1 rfl (agg84 _) rfl (hw'.1.cell 0)) hS ?_
                  go_frame
                  refine wpT_tk 6 (v := .int .i64 j) rfl (by kernel_rfl) (by kernel_rfl) (by kernel_rfl) (by kernel_rfl) (yi rfl fun w' hw' => gives_move (.inl rfl) rfl) hS ?_
                  go_frame
                  refine wpT_tk 7 (v := .pointer (some ⟨g2, j * 9, none⟩)) rfl (by kernel_rfl) (by kernel_rfl) (by kernel_rfl) (by kernel_rfl) (yi rfl fun w' hw' => gives_indexB rfl Try.underlying84 size69' rfl rfl hjn) hS ?_
                  go_frame
                  refine wpT_tk 8 (v := .agg (elA (es.getD j []))) rfl (by kernel_rfl) (by kernel_rfl) (by kernel_rfl) (by kernel_rfl) (yi rfl fun w' hw' => gives_loadE rfl rfl (hw'.2.range hjn)) hS ?_
                  go_frame
                  refine wpT_1 9 rfl (by kernel_rfl) ?_
                  refine wp_call [.agg (elA (es.getD i [])), .agg (elA (es.getD j []))] rfl rfl e59 rfl ((then_any _ _ _ HPI.out.1 HPJ.out.1 HPI.out.2 HPJ.out.2).mono ?_)
                  rintro e w3 ⟨rfl, hb3⟩
                  have hb3' : Below wr.heap.size wr w3 := ((Below.refl _ _).drew).trans hb3
                  have hcs3 := hcs.below hb3'
                  have hres3 := hres.below hb3' hres.lt
                  have hnx3 := hnx.trans (hb3'.mono hnx.size)
                  refine ⟨_, rfl, fun _ => ⟨hge2.below hb3' hge2.lt, how2.below hb3'⟩, ?_⟩
                  clear hS hcs hres hnx hge2 how2 hb3 hb3'
                  go_frame
                  refine wpT_1 10 rfl (by kernel_rfl) ?_
                  refine wp_callV (x := .tmp 45) [.agg (elA (comp (es.getD i []) (es.getD j [])))] rfl rfl e56 rfl ((add_any (w.heap.size + 1) (w.heap.size + 1) ge c L es _ w3 HOK.out HB.out.1 hcs3 (by have := HLE.out; omega)).mono ?_)
                  rintro e w4 ⟨rfl, hcs4, hb4⟩
                  have hres4 := hres3.below hb4 (by omega)
                  have hnx4 := hnx3.trans (hb4.mono (by omega))
                  clear hcs3 hres3 hnx3 hb4
                  refine ⟨_, rfl, fun h => absurd rfl h, ?_⟩
                  go_frame
                  refine wpT_done (by kernel_rfl) (noPanic_mk ?_) _
                  obtain ⟨A3, n3, cap3, hge3, how3⟩ := hcs4.ent
                  have hes3 := how3.len
                  have hin3 : i < n3 := by have := HB.out.2.2.2.2.1; omega
                  have hjn3 : j < n3 := by omega
                  obtain ⟨g3, rfl⟩ := how3.some_ (by omega)
                  have HN3 := hide hes3
                  clear hes3
                  obtain ⟨L1, hL1⟩ : ∃ x, addL L (comp (es.getD i []) (es.getD j [])) = x := ⟨_, rfl⟩
                  obtain ⟨es1, hes1⟩ : ∃ x, addE L es (comp (es.getD i []) (es.getD j [])) = x := ⟨_, rfl⟩
                  simp only [hL1, hes1] at HB hcs4 how3 HN3
                  clear hL1 hes1
                  obtain ⟨x, hx⟩ : ∃ x, es.getD i [] = x := ⟨_, rfl⟩
                  obtain ⟨y, hy⟩ : ∃ y, es.getD j [] = y := ⟨_, rfl⟩
                  simp only [hx, hy] at HB HPI HPJ
                  have HX1 := hide HB.out.2.2.2.2.2.1
                  have HX2 := hide HB.out.2.2.2.2.2.2.1
                  have HPQ := hide HB.out.2.1
                  rw [hx, hy]
                  clear hx hy
                  go_wp2_with fail
                  refine wp_region_T (S := fun w' => Blk w' ge 84 #[.slice (some ⟨g3, 0, none⟩) n3 cap3] ∧ OwnE w' (w.heap.size + 1) (some ⟨g3, 0, none⟩) n3 cap3 es1) 10 (by kernel_rfl) (⟨hge3, how3.below (Below.refl _ _).drew⟩) (fun hS => ?_)
                  refine wpT_tk 0 (v := Value.func (Fn.func 56) #[] #[.pointer (some ⟨w.heap.size + 1, 0, none⟩), .pointer (some ⟨ge, 0, none⟩)]) rfl (by kernel_rfl) (by kernel_rfl) (by kernel_rfl) (by kernel_rfl) (yi rfl fun w' hw' => gives_move (.inl rfl) rfl) hS ?_
                  go_frame
                  refine wpT_tk 1 (v := .slice (some ⟨g3, 0, none⟩) n3 cap3) rfl (by kernel_rfl) (by kernel_rfl) (by kernel_rfl) (by kernel_rfl) (yi rfl fun w' hw' => gives_load1 rfl (agg84 _) rfl (hw'.1.cell 0)) hS ?_
                  go_frame
                  refine wpT_tk 2 (v := .int .i64 j) rfl (by kernel_rfl) (by kernel_rfl) (by kernel_rfl) (by kernel_rfl) (yi rfl fun w' hw' => gives_move (.inl rfl) rfl) hS ?_
                  go_frame
                  refine wpT_tk 3 (v := .pointer (some ⟨g3, j * 9, none⟩)) rfl (by kernel_rfl) (by kernel_rfl) (by kernel_rfl) (by kernel_rfl) (yi rfl fun w' hw' => gives_indexB rfl Try.underlying84 size69' rfl rfl hjn3) hS ?_
                  go_frame
                  refine wpT_tk 4 (v := .agg (elA y)) rfl (by kernel_rfl) (by kernel_rfl) (by kernel_rfl) (by kernel_rfl) (yi rfl fun w' hw' => gives_loadE rfl rfl (by rw [← HX2.out]; exact hw'.2.range hjn3)) hS ?_
                  go_frame
                  refine wpT_tk 5 (v := .slice (some ⟨g3, 0, none⟩) n3 cap3) rfl (by kernel_rfl) (by kernel_rfl) (by kernel_rfl) (by kernel_rfl) (yi rfl fun w' hw' => gives_load1 rfl (agg84 _) rfl (hw'.1.cell 0)) hS ?_
                  go_frame
                  refine wpT_tk 6 (v := .int .i64 i) rfl (by kernel_rfl) (by kernel_rfl) (by kernel_rfl) (by kernel_rfl) (yi rfl fun w' hw' => gives_move (.inl rfl) rfl) hS ?_
                  go_frame
                  refine wpT_tk 7 (v := .pointer (some ⟨g3, i * 9, none⟩)) rfl (by kernel_rfl) (by kernel_rfl) (by kernel_rfl) (by kernel_rfl) (yi rfl fun w' hw' => gives_indexB rfl Try.underlying84 size69' rfl rfl hin3) hS ?_
                  go_frame
                  refine wpT_tk 8 (v := .agg (elA x)) rfl (by kernel_rfl) (by kernel_rfl) (by kernel_rfl) (by kernel_rfl) (yi rfl fun w' hw' => gives_loadE rfl rfl (by rw [← HX1.out]; exact hw'.2.range hin3)) hS ?_
                  go_frame
                  refine wpT_1 9 rfl (by kernel_rfl) ?_
                  refine wp_call [.agg (elA y), .agg (elA x)] rfl rfl e59 rfl ((then_any _ _ _ HPJ.out.1 HPI.out.1 HPJ.out.2 HPI.out.2).mono ?_)
                  rintro e w5 ⟨rfl, hb5⟩
                  have hb5' : Below w4.heap.size w4 w5 := ((Below.refl _ _).drew).trans hb5
                  have hcs5 := hcs4.below hb5'
                  have hres5 := hres4.below hb5' hres4.lt
                  have hnx5 := hnx4.trans (hb5'.mono hnx4.size)
                  refine ⟨_, rfl, fun _ => ⟨hge3.below hb5' hge3.lt, how3.below hb5'⟩, ?_⟩
                  clear hS hcs4 hres4 hnx4 hge3 how3 hb5 hb5'
                  go_frame
                  refine wpT_1 10 rfl (by kernel_rfl) ?_
                  refine wp_callV (x := .tmp 56) [.agg (elA (comp y x))] rfl rfl e56 rfl ((add_any (w.heap.size + 1) (w.heap.size + 1) ge c L1 es1 _ w5 HB.out.2.2.1 HPQ.out hcs5 (by have := HB.out.2.2.2.1; omega)).mono ?_)
                  rintro e w6 ⟨rfl, hcs6, hb6⟩
                  have hres6 := hres5.below hb6 (by omega)
                  have hnx6 := hnx5.trans (hb6.mono (by omega))
                  clear hcs5 hres5 hnx5 hb6
                  refine ⟨_, rfl, fun h => absurd rfl h, ?_⟩
                  go_frame
                  refine wpT_done (by kernel_rfl) (noPanic_mk ?_) _
                  go_wp2_with fail
                  go_roundw
                  case rel => exact ⟨j + 1, _, _, by go_num, by omega, hcs6, HB.out.2.2.2.2.2.2.2, hres6, hnx6⟩
                  case measure => simp [intOf]; omega
                · have hji : j = i + 1 := by omega
                  rw [hji] at hst
                  have HST := hide hst.out
                  clear hst hji
                  go_wp2_with fail
                  go_roundw
                  case rel => exact ⟨i + 1, L, es, by go_num, HST.out.lt, hcs, ⟨HST.out.st.ci, HST.out.st.gens, HST.out.st.pairs.next HST.out.row⟩, hres, hnx⟩
                  case measure => simp [intOf]; omega
            · have hie : i = es.length := by omega
              rw [hie] at hst
              have hlg : k = (gl.map ext).length := by rw [List.length_map, HGL.out]
              rw [hlg] at hst
              have HST := hide hst.out
              have HCM := hide hcs.maps
              have HCC := hide hcs.ch
              clear hst hie hlg hes how1 hcs
              go_wp2_with (first | ((with_reducible show wpList _ _ _ (Oper.mk _ (.load 64 _) _ _ _ _ :: _) _ _); refine wpList_load_row rfl 64 _ rfl _ rfl 64 (chA c) (0, 0) _ HCC.out Try.underlying64 rfl (size64 c) ?_) | ((with_reducible show wpList _ _ _ (Oper.mk _ (.store 64 _ _) _ _ _ _ :: _) _ _); refine wpList_store_row rfl 64 _ _ rfl _ (chA c) rfl rfl 64 (chK (fun _ => 0) 0) hres (size64 c) (by rw [chA_size]; rfl) (chA_one c) ?_))
              refine bodyPost_ret (v := .agg (chA c)) (results_cell_row rfl _ _ w.heap.size 64 (chA c) (0, 0) _ rfl (show Blk (wr.setRow w.heap.size (chA c)) w.heap.size 64 (chA c) from hres.row) Try.underlying64 rfl (size64 c)) rfl ⟨c, L, rfl, ⟨fun i hi => (HCM.out.dict i hi).setRow (fun e => blk_ne_dict hres (HCM.out.dict i hi) e.symm) _, HCM.out.ne⟩, HST.out.ci.ok, fun p => HST.out.group HPE.out p, below_setRow hnx (Nat.le_refl _) _⟩
end Go.Proofs.Ytnpdlfnhpghkmaa
