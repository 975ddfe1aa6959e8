/- Several texts in one. -/
import Derived.Test.YtoaiblhlpdaeoaaPart14
import Derived.Test.YtoaiblhlpdaeoaaPart15
import Derived.Test.YtoaiblhlpdaeoaaPart1
/- Package garside: split. -/
namespace Go.Proofs.Ytoaiblhlpdaeoaa
set_option linter.unusedVariables false
set_option linter.unusedSimpArgs false
open Go.RowKit Go.Shelf
attribute [local go_sem] Oper.semAt_some

theorem OwnI.owned {w w' : World} {base n c : Nat} {D : Option Addr} {xs : List Int} {row : Option Nat} (h : OwnI w base D n c xs) (hg : w.grownBy w' row) (hr : ∀ r, row = some r → ∃ o : Obj, w.heap[r]? = some o ∧ o.isCells = false) : OwnI w' base D n c xs := by
  refine ⟨⟨h.own.1, ?_⟩, h.small⟩
  rcases h.own.2 with h2 | ⟨g', cap, cur, hv, hg', hh, r⟩
  · exact .inl h2
  · exact .inr ⟨g', cap, cur, hv, hg', Blk.owned (w := w) (t := 3) (ds := cur) hh hg hr, r⟩
theorem FcB.owned {w w' : World} {base go k N lo : Nat} {gr cr : Nat → Nat} {P : Nat → List Nat} {row : Option Nat} (h : FcB w base go k N gr cr lo P) (hg : w.grownBy w' row) (hr : ∀ r, row = some r → ∃ o : Obj, w.heap[r]? = some o ∧ o.isCells = false) : FcB w' base go k N gr cr lo P := by
  obtain ⟨cs, hc⟩ := h.blk
  exact ⟨⟨cs, hc.owned hg hr⟩, fun i h1 h2 => cell_kept (h.out i h1 h2) hg hr, fun i h1 h2 => (h.row i h1 h2).owned hg hr, h.per, h.ne, h.dis⟩
/-- A block outside is changed. -/
theorem FcB.far {w w' : World} {base go k N lo g : Nat} {gr cr : Nat → Nat} {P : Nat → List Nat} (h : FcB w base go k N gr cr lo P) (hg : w.grownBy w' (some g)) (h1 : g ≠ go) (h2 : g < base) : FcB w' base go k N gr cr lo P := by
  obtain ⟨cs, hc⟩ := h.blk
  refine ⟨⟨cs, hc.grown hg (fun e => h1 (by injection e with e; exact e.symm))⟩, fun i a b => (World.cell?_of_block (a := ⟨go, i, none⟩) (hg.block go h.lt (fun e => h1 (by injection e with e; exact e.symm)))).trans (h.out i a b), fun i a b => (h.row i a b).far hg (fun ad e e2 => ?_), h.per, h.ne, h.dis⟩
  injection e with e
  subst e
  injection e2 with e2
  have := (h.row i a b).inBase.1
  simp at e2
  omega
theorem BackSZ.front {m : Nat} {V : Nat → Int → Prop} {ys : List (BackZ m V)} {y : BackZ m V} (h : BackSZ (ys ++ [y])) : BackSZ ys ∧ ys.length < m ∧ y.1.1 = m - 1 - ys.length := by
  have h1 := h.1
  rw [List.length_append, List.length_singleton] at h1
  refine ⟨⟨by omega, fun k z hz => h.2 k z ?_⟩, by omega, h.2 ys.length y (by simp)⟩
  have hk : k < ys.length := by
    rcases Nat.lt_or_ge k ys.length with h | h
    · exact h
    · rw [List.getElem?_eq_none h] at hz; cases hz
  rw [List.getElem?_append_left hk]
  exact hz
theorem ownBlk {w : World} {base g n : Nat} (h : w.ownsRow base 22 1 (.slice (some ⟨g, 0, none⟩) n n) n (madeCells #[Value.slice none 0 0] (n * 1)).toList) : ∃ cs, Blk w g 22 cs ∧ cs.size = n := by
  rcases h.2 with ⟨hv, h0⟩ | ⟨g2, cap, cur, hv, hg, hh, _, _, hz, _⟩
  · simp at hv
  · simp only [Value.slice.injEq, Option.some.injEq, Addr.mk.injEq, and_true, true_and] at hv
    obtain ⟨rfl, rfl⟩ := hv
    exact ⟨cur, hh, by omega⟩
theorem results_gg {fn : Func} {t u : Tmp} {v e : Value} {w : World} (h : fn.results = #[.tmp t, .tmp u]) (tmps : Array Value) (ht : tmps.getD t undef = v) (hu : tmps.getD u undef = e) : (results fn tmps).run Try.prog w = .ok (.tuple #[v, e]) w := by
  have ht2 : tmps[t]?.getD undef = v := by simpa using ht
  have hu2 : tmps[u]?.getD undef = e := by simpa using hu
  simp [results, h, ht2, hu2, go_sem, Result.andThen]
theorem eFactorOf : ∀ args w, (callFunc 94 args).run Try.prog w = .ok (.enter 94 args) w := enters (fn := Try.f94) (by kernel_rfl) (by kernel_rfl) (by kernel_rfl)
/-- One more row, before the others. -/
theorem FcB.push {w : World} {base B1 go k N lo i g4 c4 : Nat} {gr cr : Nat → Nat} {P : Nat → List Nat} {f : List Nat} (h : FcB w base go k N gr cr lo P) (hi : i + 1 = lo) (hc : ∃ v, w.cell? ⟨go, i, none⟩ = some v) (ho : OwnI w B1 (some ⟨g4, 0, none⟩) N c4 (zs f)) (hB : base ≤ B1) (hnew : ∀ j, lo ≤ j → j < k → gr j ≠ g4) (hg : g4 ≠ go) (hP : P i = f) (pf : isP f) (lf : f.length = N) :
    FcB (w.setCell ⟨go, i, none⟩ (.slice (some ⟨g4, 0, none⟩) N c4)) base go k N (fun j => if j = i then g4 else gr j) (fun j => if j = i then c4 else cr j) i P := by
  obtain ⟨v, hc⟩ := hc
  have hs := chgA_set (w := w) (g := go) (i := i) (v := .slice (some ⟨g4, 0, none⟩) N c4)
  obtain ⟨cs, hcs⟩ := h.blk
  have hge : ∀ j, i ≤ j → j ≠ i → lo ≤ j := fun j h1 h2 => by omega
  refine ⟨⟨_, hcs.set_ i _⟩, fun j h1 h2 => ?_, fun j h1 h2 => ?_, fun j h1 h2 => ?_, fun j h1 h2 => ?_, fun a b h1 h2 h3 h4 h5 => ?_⟩
  · by_cases e : j = i
    · subst e
      simp only [if_true]
      exact World.cell?_setCell_same' _ _ _ (by rw [hc]; rfl)
    · simp only [if_neg e]
      rw [← h.out j (hge j h1 e) h2]
      exact World.cell?_setCell_other (w := w) (a := ⟨go, i, none⟩) (b := ⟨go, j, none⟩) _ (by intro q; injection q; omega)
  · by_cases e : j = i
    · subst e
      simp only [if_true]
      rw [hP]
      exact (ho.mono hB).far hs (fun ad q q2 => by injection q with q; subst q; injection q2 with q2; exact hg q2.symm)
    · simp only [if_neg e]
      exact (h.row j (hge j h1 e) h2).far hs (fun ad q q2 => by injection q with q; subst q; injection q2 with q2; exact h.ne j (hge j h1 e) h2 q2.symm)
  · by_cases e : j = i
    · subst e; rw [hP]; exact ⟨pf, lf⟩
    · exact h.per j (hge j h1 e) h2
  · by_cases e : j = i
    · simp only [if_pos e]; exact hg
    · simp only [if_neg e]; exact h.ne j (hge j h1 e) h2
  · by_cases e1 : a = i
    · by_cases e2 : b = i
      · omega
      · simp only [if_pos e1, if_neg e2]; exact (hnew b (hge b h3 e2) h4).symm
    · by_cases e2 : b = i
      · simp only [if_neg e1, if_pos e2]; exact hnew a (hge a h1 e1) h2
      · simp only [if_neg e1, if_neg e2]; exact h.dis a b (hge a h1 e1) h2 (hge b h3 e2) h4 h5
/-- What a round of split finds. -/
structure SpI (w : World) (N n b2 b6 b7 go B0 : Nat) (xs : List Int) (z : Int) (pre : List (BackZ n fun j v => v = xs.getD j 0)) (W : World) : Prop where
  bn : Blk W b2 3 #[.int .i64 N]
  bp : Blk W b6 3 #[.int .i64 z]
  bf : Blk W b7 26 #[.slice (some ⟨go, 0, none⟩) n n]
  bg : ∃ cs, Blk W go 22 cs ∧ cs.size = n
  base : Below w.heap.size w W
  sz : B0 ≤ W.heap.size
  fac : BackSZ pre → ∃ gr cr, FcB W B0 go n N gr cr (n - pre.length) (fun j => (spF N xs).getD j [])
theorem SpI.owned {w A B : World} {N n b2 b6 b7 go B0 : Nat} {xs : List Int} {z : Int} {pre : List (BackZ n fun j v => v = xs.getD j 0)} (h : SpI w N n b2 b6 b7 go B0 xs z pre A) {row : Option Nat} (hg : A.grownBy B row) (hr : ∀ r, row = some r → w.heap.size ≤ r ∧ ∃ o : Obj, A.heap[r]? = some o ∧ o.isCells = false) : SpI w N n b2 b6 b7 go B0 xs z pre B :=
  have hr2 : ∀ r, row = some r → ∃ o : Obj, A.heap[r]? = some o ∧ o.isCells = false := fun r e => (hr r e).2
  ⟨h.bn.owned hg hr2, h.bp.owned hg hr2, h.bf.owned hg hr2, by obtain ⟨cs, h1, h2⟩ := h.bg; exact ⟨cs, h1.owned hg hr2, h2⟩, h.base.grown hg h.base.size (fun r e => (hr r e).1), Nat.le_trans h.sz hg.size, fun k => by
    obtain ⟨gr, cr, hf⟩ := h.fac k
    exact ⟨gr, cr, hf.owned hg hr2⟩⟩
/-- A factor is stored. -/
theorem SpI.mid {w W W5 : World} {N n b2 b6 b7 go B0 g4 c4 B1 : Nat} {xs : List Int} {z : Int} {pre : List (BackZ n fun j v => v = xs.getD j 0)} {p : BackZ n fun j v => v = xs.getD j 0} {f : List Nat} (h : SpI w N n b2 b6 b7 go B0 xs z pre W) (hb : Below W.heap.size W W5) (ho : OwnI W5 B1 (some ⟨g4, 0, none⟩) N c4 (zs f)) (hB1 : W.heap.size ≤ B1)
    (hf : BackSZ (pre ++ [p]) → (spF N xs).getD p.1.1 [] = f) (pf : isP f) (lf : f.length = N) (hw : w.heap.size ≤ go) (h2 : b2 < go) (h6 : b6 < go) (h7 : go < b7) :
    SpI w N n b2 b6 b7 go B0 xs z (pre ++ [p]) (W5.setCell ⟨go, p.1.1, none⟩ (.slice (some ⟨g4, 0, none⟩) N c4)) := by
  obtain ⟨cs, hc, hs⟩ := h.bg
  have hc5 := hc.below hb hc.lt
  have hg4 := ho.inBase.1
  have hgl := hc.lt
  refine ⟨(h.bn.below hb h.bn.lt).far (p := ⟨go, p.1.1, none⟩) (by show b2 ≠ go; omega) _, (h.bp.below hb h.bp.lt).far (p := ⟨go, p.1.1, none⟩) (by show b6 ≠ go; omega) _, (h.bf.below hb h.bf.lt).far (p := ⟨go, p.1.1, none⟩) (by show b7 ≠ go; omega) _, ⟨_, hc5.set_ p.1.1 _, by simpa using hs⟩, (h.base.trans (hb.mono h.base.size)).setCell (p := ⟨go, p.1.1, none⟩) hw _, by
    have h1 := h.sz
    have h2 := hb.size
    show B0 ≤ (W5.setCell _ _).heap.size
    simp only [World.size_setCell]
    omega, fun k => ?_⟩
  obtain ⟨k1, k2, k3⟩ := k.front
  obtain ⟨gr, cr, hF⟩ := h.fac k1
  have hF5 := hF.below hb
  have hlen : n - (pre ++ [p]).length = p.1.1 := by rw [List.length_append, List.length_singleton]; omega
  rw [hlen]
  exact ⟨_, _, hF5.push (by omega) ⟨_, by rw [hc5.cell]; exact Array.getElem?_eq_getElem (by rw [hs]; exact p.2.1)⟩ ho (Nat.le_trans h.sz hB1) (fun j h1 h2 => by have := (hF.row j h1 h2).inBase.2; omega) (by omega) (hf k) pf lf⟩
/-- The power is stored. -/
theorem SpI.pow {w W : World} {N n b2 b6 b7 go B0 : Nat} {xs : List Int} {z z' : Int} {pre : List (BackZ n fun j v => v = xs.getD j 0)} (h : SpI w N n b2 b6 b7 go B0 xs z pre W) (hw : w.heap.size ≤ b6) (h2 : b2 ≠ b6) (h6 : b6 < go) (h7 : go < b7) (h8 : b7 < B0) :
    SpI w N n b2 b6 b7 go B0 xs z' pre (W.setCell ⟨b6, 0, none⟩ (.int .i64 z')) := by
  obtain ⟨cs, hc, hs⟩ := h.bg
  refine ⟨h.bn.far (p := ⟨b6, 0, none⟩) h2 _, h.bp.set_ 0 _, h.bf.far (p := ⟨b6, 0, none⟩) (by show b7 ≠ b6; omega) _, ⟨cs, hc.far (p := ⟨b6, 0, none⟩) (by show go ≠ b6; omega) _, hs⟩, h.base.setCell (p := ⟨b6, 0, none⟩) hw _, by
    have h1 := h.sz
    simp only [World.size_setCell]
    omega, fun k => ?_⟩
  obtain ⟨gr, cr, hF⟩ := h.fac k
  exact ⟨gr, cr, hF.far (chgA_set (g := b6) (i := 0)) (by omega) (by omega)⟩

set_option maxRecDepth 100000 in
set_option maxHeartbeats 8000000 in
theorem gsplit_any (N : Nat) (A : Option Addr) (n c : Nat) (xs : List Int) (w : World) (ha : SL w A n c xs) (h1 : 1 ≤ N) (h6 : N ≤ 6) (hok : okB N xs) (hn : n ≤ 30) :
    Calls Try.prog 49 #[.int .i64 N, .slice A n c] w fun e w' => ∃ (go : Nat) (gr cr : Nat → Nat), e = .returned (.tuple #[.int .i64 (-(Gar.negs xs : Int)), .slice (some ⟨go, 0, none⟩) n n]) ∧ FcB w' w.heap.size go n N gr cr 0 (fun j => (spF N xs).getD j []) ∧ w.heap.size ≤ go ∧ Below w.heap.size w w' := by
  have HL := hide ha.il.len
  have hns := ha.il.small
  have HIN := hide ha.inside
  have HOK := hide hok
  obtain ⟨i0, hi0, hz0, hz1, hz2⟩ := info_parts (show (Try.prog.info? 22).map (fun i => (i.zero, i.size, i.bytes)) = some (some (.slice none 0 0), 1, 24) by kernel_rfl)
  have HI0 := hide hi0
  have HZ0 := hide hz0
  have HZ1 := hide hz1
  have HZ2 := hide hz2
  clear hi0 hz0 hz1 hz2
  have hb1 : Below w.heap.size w (w.alloc (.cells #[.int .i64 N] 3)) := (Below.refl _ _).alloc (Nat.le_refl _) _
  have k2 := Blk.new w 3 #[.int .i64 N]
  have HA := hide (ha.below hb1)
  have HW := hide hb1
  have B2 := hide k2
  clear ha hok hb1 k2
  refine (callsIn_wide (n := 9)).1 (callsIn_of_wp_marks Try.func49 rfl trivial ?_ rfl)
  simp only [Try.ntmps49, List.size_toArray, List.length_cons, List.length_nil, Nat.reduceAdd, Nat.reduceSub, Array.replicate_succ, Array.replicate_zero, List.push_toArray, List.append_toArray, List.nil_append, List.cons_append]
  refine wpIn_wide.2 ?_
  go_upto_region 1 with fail
  obtain ⟨w0, hw0⟩ : ∃ x2, w.alloc (.cells #[.int .i64 N] 3) = x2 := ⟨_, rfl⟩
  obtain ⟨b2, hb2⟩ : ∃ b, w.heap.size = b := ⟨_, rfl⟩
  rw [hw0] at HA HW B2 ⊢
  clear hw0
  have hlw := B2.out.lt
  rw [hb2] at B2 hlw ⊢
  go_upto_region 2 with fail
  have hb1 : Below w0.heap.size w0 (w0.alloc (.cells #[.int .i64 0] 3)) := (Below.refl _ _).alloc (Nat.le_refl _) _
  have k6 := Blk.new w0 3 #[.int .i64 0]
  obtain ⟨b6, hb6⟩ : ∃ b, w0.heap.size = b := ⟨_, rfl⟩
  obtain ⟨w1, hw1⟩ : ∃ x, w0.alloc (.cells #[.int .i64 0] 3) = x := ⟨_, rfl⟩
  replace HW := hide (HW.out.trans (hb1.mono HW.out.size))
  replace HA := hide (HA.out.below hb1)
  replace B2 := hide (B2.out.below hb1 B2.out.lt)
  rw [hw1] at HW HA B2 k6 ⊢
  rw [hb6] at k6 hlw ⊢
  have B6 := hide k6
  have hl6 := k6.lt
  clear hb1 k6 hw1 hb6
  obtain ⟨go, hgo⟩ : ∃ b, w1.heap.size = b := ⟨_, rfl⟩
  have hl6g : b6 < go := by omega
  go_upto_region 3 with (at_make; refine wpList_make_full _ rfl _ _ 26 rfl w.heap.size 22 i0 (.slice none 0 0) 1 Try.underlying26 HI0.out HZ0.out HZ1.out .i64 .i64 _ _ n rfl rfl rfl rfl (by rw [HZ2.out]; omega) (by unfold maxLen; omega) HW.out.size ?_; intro w2 hown2 hg2)
  have hB2 : Below w1.heap.size w1 w2 := (Below.refl _ _).grown hg2 (Nat.le_refl _) (by intro k hk; cases hk)
  have hgs := ownBlk hown2
  rw [hgo] at hgs
  have hgl : go < w2.heap.size := by
    obtain ⟨cs, hc, _⟩ := hgs
    exact hc.lt
  obtain ⟨b7, hb7⟩ : ∃ b, w2.heap.size = b := ⟨_, rfl⟩
  have hl7 : go < b7 := by omega
  have hb3 : Below w2.heap.size w2 (w2.alloc (.cells #[.slice (some ⟨go, 0, none⟩) n n] 26)) := (Below.refl _ _).alloc (Nat.le_refl _) _
  have k7 := Blk.new w2 26 #[.slice (some ⟨go, 0, none⟩) n n]
  have hb23 := hB2.trans (hb3.mono hB2.size)
  obtain ⟨w3, hw3⟩ : ∃ x, w2.alloc (.cells #[.slice (some ⟨go, 0, none⟩) n n] 26) = x := ⟨_, rfl⟩
  replace HW := hide (HW.out.trans (hb23.mono HW.out.size))
  replace HA := hide (HA.out.below hb23)
  replace B2 := hide (B2.out.below hb23 B2.out.lt)
  replace B6 := hide (B6.out.below hb23 B6.out.lt)
  have HG : Hid (∃ cs, Blk (w2.alloc (.cells #[.slice (some ⟨go, 0, none⟩) n n] 26)) go 22 cs ∧ cs.size = n) := hide (by
    obtain ⟨cs, hc, hs⟩ := hgs
    exact ⟨cs, hc.below hb3 hc.lt, hs⟩)
  rw [hw3] at HW HA B2 B6 HG k7 ⊢
  rw [hb7] at k7 ⊢
  have B7 := hide k7
  have hl73 := k7.lt
  clear hown2 hg2 hB2 hgs hgl hb3 hb23 k7 hw3 hb7 hgo hl6 HI0 HZ0 HZ1 HZ2
  go_wp2_with fail
  refine (backF_any A n c _).mono ?_
  rintro e w4 ⟨rfl, rfl⟩
  go_wp2_with fail
  have hbb : Below w3.heap.size w3 (w3.alloc (.cells #[.slice A n c] 22)) := (Below.refl _ _).alloc (Nat.le_refl _) _
  have k8 := Blk.new w3 22 #[.slice A n c]
  obtain ⟨b8, hb8⟩ : ∃ b, w3.heap.size = b := ⟨_, rfl⟩
  have hl8 : b7 < b8 := by omega
  obtain ⟨w4, hw4⟩ : ∃ x, w3.alloc (.cells #[.slice A n c] 22) = x := ⟨_, rfl⟩
  replace HA := hide (HA.out.below hbb)
  replace HW := hide (HW.out.trans (hbb.mono HW.out.size))
  replace B2 := hide (B2.out.below hbb B2.out.lt)
  replace B6 := hide (B6.out.below hbb B6.out.lt)
  replace B7 := hide (B7.out.below hbb B7.out.lt)
  replace HG := hide (show ∃ cs, Blk (w3.alloc (.cells #[.slice A n c] 22)) go 22 cs ∧ cs.size = n by
    obtain ⟨cs, hc, hs⟩ := HG.out
    exact ⟨cs, hc.below hbb hc.lt, hs⟩)
  rw [hw4] at HA HW B2 B6 B7 HG k8 ⊢
  rw [hb8] at k8 ⊢
  have B8 := hide k8
  have hl84 := k8.lt
  clear hbb k8 hw4 hb8 hl73
  have HI0 : Hid (SpI w N n b2 b6 b7 go w4.heap.size xs (-(Gar.negs (wordZ ([] : List (BackZ n fun j v => v = xs.getD j 0))) : Int)) [] w4) := hide ⟨B2.out, B6.out, B7.out, HG.out, HW.out, Nat.le_refl _, fun _ => by
    obtain ⟨cs, hc, _⟩ := HG.out
    exact ⟨fun _ => 0, fun _ => 0, ⟨cs, hc⟩, fun i a b => absurd a (by simp; omega), fun i a b => absurd a (by simp; omega), fun i a b => absurd a (by simp; omega), fun i a b => absurd a (by simp; omega), fun i j a b => absurd a (by simp; omega)⟩⟩
  refine (wpIn_wide (n := 9)).1 (wpIn_rangeFunc_ownG rfl (by decide) (gf := 104) (lb := #[.pointer (some ⟨b8, 0, none⟩)]) rfl trivial eBackX
    (backZ_stops Fence.wide (9 - 1) trivial rfl (by decide) b8 (fun j v => v = xs.getD j 0) A n c hns w4 (fun W hW => BackR.ofIL (by have h := (B8.out.below hW B8.out.lt).cell 0; simpa using h) (HA.out.below hW).il))
    (fun h k hr => k (h hr)) (fun W l o o' _ h ho _ => backK_b W l o o' h ho) (Below.refl _ _) (fun _ => rfl)
    (fun pre W => SpI w N n b2 b6 b7 go w4.heap.size xs (-(Gar.negs (wordZ pre) : Int)) pre W)
    (fun _ _ _ => False)
    (fun s A B row hs hg hr => SpI.owned hs hg (fun r e => ⟨by have := (hr r e).1; have := HW.out.size; omega, (hr r e).2⟩))
    (fun _ _ _ _ _ hs _ _ => hs)
    HI0.out
    (fun p => { tmps := #[.int .i64 N, .slice A n c, .pointer (some ⟨b2, 0, none⟩), undef, .int .i64 0, .slice none 0 0, .pointer (some ⟨b6, 0, none⟩), .pointer (some ⟨b7, 0, none⟩), .int .i64 p.1.1, .int .i64 p.1.2,
        .slice A n c, .int .i64 n, .slice (some ⟨go, 0, none⟩) n n, .slice A n c, .func (.func 104) #[] #[.pointer (some ⟨b8, 0, none⟩)], .int .i64 p.1.1, .int .i64 p.1.2, undef, undef, undef, undef, undef, undef, undef, undef, undef, undef, undef, undef, undef, undef, undef, undef, undef, undef], defers := [] }) ?assign ?body ?done ?stop)
  case assign =>
    intro l p W K hK
    gi_wp2
    exact hK
  case body =>
    rintro l pre p W hI hlen
    have HI := hide hI
    clear hI
    have HOP := hide (wordZ_ok HL.out HOK.out (pre ++ [p]))
    have hwz := wordZ_snoc pre p
    have hxo : Gar.okl N p.1.2 := HOP.out p.1.2 (by rw [hwz]; simp)
    have hi : p.1.1 < n := p.2.1
    have hml : Gar.negs (wordZ pre) ≤ 30 := by
      have h1 := Gar.sum_le (wordZ pre)
      have h2 : (wordZ pre).length = pre.length := by simp [wordZ]
      omega
    have HFC : Hid (BackSZ (pre ++ [p]) → (spF N xs).getD p.1.1 [] = facL N (mir N p.1.2 (Gar.negs (wordZ pre)))) := hide (fun k => by
      obtain ⟨k1, k2, k3⟩ := k.front
      have h1 := wordZ_drop HL.out k1
      rw [spF_getD N (by rw [HL.out]; exact hi), h1, ← p.2.2, show n - pre.length = p.1.1 + 1 by omega])
    have HNX : Hid (Gar.negs (wordZ (pre ++ [p])) = Gar.negs (wordZ pre) + if p.1.2 < 0 then 1 else 0) := hide (by rw [hwz, Gar.negs_cons])
    dsimp only
    generalize hQ : ownPostG _ _ _ _ _ _ = Q
    have HQ := hide hQ
    have HOUT : Hid (∀ a w, ¬ Q .outgrown a w) := hide (by rw [← hQ]; exact fun _ _ h => h)
    clear hQ hwz HOP
    obtain ⟨i, hpi⟩ : ∃ i, p.1.1 = i := ⟨_, rfl⟩
    obtain ⟨x, hpx⟩ : ∃ x, p.1.2 = x := ⟨_, rfl⟩
    obtain ⟨m, hm⟩ : ∃ m, Gar.negs (wordZ pre) = m := ⟨_, rfl⟩
    have HPI := hide hpi
    have HPM := hide hm
    rw [hpi] at hi HFC ⊢
    rw [hpx] at hxo HFC HNX ⊢
    rw [hm] at hml HFC HNX
    have c6 : W.cell? ⟨b6, 0, none⟩ = some (.int .i64 (-(m : Int))) := by have h := HI.out.bp.cell 0; rw [hm] at h; simpa using h
    have c2 : W.cell? ⟨b2, 0, none⟩ = some (.int .i64 (N : Int)) := by have h := HI.out.bn.cell 0; simpa using h
    clear hpi hpx hm
    obtain ⟨y, hy⟩ : ∃ y, mir (N : Int) x m = y := ⟨_, rfl⟩
    have HYO : Hid (Gar.okl N y) := hide (by rw [← hy]; exact mir_okl hxo m)
    have HSG : Hid ((x < 0) = (y < 0)) := hide (by
      rw [← hy]
      unfold Gar.okl at hxo
      unfold mir
      split
      · rfl
      · split <;> exact propext ⟨fun _ => by omega, fun _ => by omega⟩)
    rw [hy] at HFC
    have hxb : -(N : Int) < x ∧ x < N := by unfold Gar.okl at hxo; omega
    rcases Nat.mod_two_eq_zero_or_one m with hme | hme
    · have htm : ((-(m : Int)).tmod 2 != 0) = false := by
        have h : (-(m : Int)).tmod 2 = 0 := (Int.dvd_iff_tmod_eq_zero (a := 2)).1 (by omega)
        rw [h]; rfl
      have hxy : y = x := by rw [← hy]; unfold mir; rw [if_pos hme]
      clear hy
      subst hxy
      gi_wp2_with fail
      obtain ⟨f, hf⟩ : ∃ f, facL N y = f := ⟨_, rfl⟩
      obtain ⟨f1, f2, _⟩ := facL_val HYO.out
      have HFA := hide (gfactor_any N y W.drew h1 h6 HYO.out)
      rw [hf] at f1 f2 HFA HFC
      have hN2 : 0 < N := by omega
      clear hf hxb hxo c6 c2
      refine wpIn_region_T (S := fun W' => Below W.heap.size W W') 6 (by kernel_rfl) (by kernel_rfl) (fun a w h => HOUT.out a w h) (Below.refl _ _).drew (fun hS => ?_)
      refine wpT_tk 0 (v := .slice (some ⟨go, 0, none⟩) n n) rfl (by kernel_rfl) (by kernel_rfl) (by kernel_rfl) (by kernel_rfl) (yi rfl fun w' hw' => gives_load1 rfl (by kernel_rfl) rfl (by have h := (HI.out.bf.below hw' HI.out.bf.lt).cell 0; simpa using h)) hS ?_
      go_frame
      refine wpT_tk 1 (v := .int .i64 i) rfl (by kernel_rfl) (by kernel_rfl) (by kernel_rfl) (by kernel_rfl) (yi rfl fun w' hw' => gives_move (.inl rfl) rfl) hS ?_
      go_frame
      refine wpT_tk 2 (v := .int .i64 N) rfl (by kernel_rfl) (by kernel_rfl) (by kernel_rfl) (by kernel_rfl) (yi rfl fun w' hw' => gives_load1 rfl (by kernel_rfl) rfl (by have h := (HI.out.bn.below hw' HI.out.bn.lt).cell 0; simpa using h)) hS ?_
      go_frame
      refine wpT_tk 3 (v := .int .i64 y) rfl (by kernel_rfl) (by kernel_rfl) (by kernel_rfl) (by kernel_rfl) (yi rfl fun w' hw' => gives_move (.inl rfl) rfl) hS ?_
      go_frame
      refine wpT_1 4 rfl (by kernel_rfl) ?_
      refine wp_call [.int .i64 N, .int .i64 y] rfl rfl eFactorOf rfl (HFA.out.mono ?_)
      rintro e W5 ⟨A4, n4, c4, rfl, ho, hb5⟩
      have hn4 : n4 = N := by have := ho.len; rw [zs_length, f2] at this; exact this.symm
      subst hn4
      obtain ⟨g4, rfl, _, _⟩ := ho.form hN2
      have hS5 : Below W.heap.size W W5 := hS.trans hb5
      refine ⟨_, rfl, fun _ => hS5, ?_⟩
      go_frame
      refine wpT_tk 5 (v := .pointer (some ⟨go, i * 1, none⟩)) rfl (by kernel_rfl) (by kernel_rfl) (by kernel_rfl) (by kernel_rfl) (yi rfl fun w' hw' => gives_indexB rfl Try.underlying26 (fun w => by kernel_rfl) rfl rfl hi) hS5 ?_
      go_frame
      rw [Nat.mul_one]
      have hbg : ∃ v, W5.cell? ⟨go, i, none⟩ = some v := by
        obtain ⟨cs, hc, hs⟩ := HI.out.bg
        exact ⟨_, by rw [(hc.below hS5 hc.lt).cell]; exact Array.getElem?_eq_getElem (by rw [hs]; exact hi)⟩
      have hfg : W5.frozen? ⟨go, i, none⟩ = false := by
        obtain ⟨cs, hc, hs⟩ := HI.out.bg
        exact (hc.below hS5 hc.lt).frozen i
      obtain ⟨v5, hv5⟩ := hbg
      refine wpT_1 6 rfl (by kernel_rfl) ?_
      refine wp_storeS rfl (by kernel_rfl) (by kernel_rfl) rfl rfl hv5 hfg ?_
      refine ⟨fun h => absurd rfl h, ?_⟩
      go_frame
      refine wpT_done (by kernel_rfl) (noPanic_mk ?_) _
      have hMID := HI.out.mid (p := p) hS5 ho (Nat.le_refl _) (by rw [HPI.out]; exact HFC.out) f1 f2 (by omega) (by omega) hl6g hl7
      rw [HPI.out] at hMID
      have HMID := hide hMID
      have HKF : Hid (KeepsFrom w4.heap.size W (W5.setCell ⟨go, i, none⟩ (.slice (some ⟨g4, 0, none⟩) n4 c4))) := hide ((KeepsFrom.of_grownBy (B := w4.heap.size) (chgA_below (g := go) hS5) (fun r e => by injection e with e; omega)).trans ((KeepsOthers.setCell _ _ _).from _))
      have HGR := hide (chgA_trans (chgA_below (g := go) hS5) (chgA_set (g := go) (i := i) (v := .slice (some ⟨g4, 0, none⟩) n4 c4)))
      obtain ⟨W6, hW6⟩ : ∃ q, W5.setCell ⟨go, i, none⟩ (.slice (some ⟨g4, 0, none⟩) n4 c4) = q := ⟨_, rfl⟩
      rw [hW6] at HMID HKF HGR ⊢
      clear hMID ho hb5 hS hS5 hfg hv5 HFA hW6 HI
      by_cases hyn : y < 0
      · have c6 : W6.cell? ⟨b6, 0, none⟩ = some (.int .i64 (-(m : Int))) := by have h := HMID.out.bp.cell 0; rw [HPM.out] at h; simpa using h
        have f6 := HMID.out.bp.frozen 0
        have hws : IntKind.i64.wrap (-(m : Int) - 1) = -(m : Int) - 1 := by rw [IntKind.wrap_i64]; omega
        have HPW := hide (HMID.out.pow (z' := -(m : Int) - 1) (by omega) (by omega) hl6g hl7 (by omega))
        have HZ : Hid (-(Gar.negs (wordZ (pre ++ [p])) : Int) = -(m : Int) - 1) := hide (by
          rw [HNX.out]
          simp only [HSG.out, if_pos hyn]
          omega)
        gi_wp2_with fail
        rw [← HQ.out]
        refine ⟨HKF.out.trans ((KeepsOthers.setCell _ _ _).from _), fun hr => (hr.grown HGR.out (by omega) (fun hn ad e => by have := HIN.out hn ad e; omega)).setCell (by omega) (fun h ad e => by have := HIN.out h ad e; omega) 0 _, ?_⟩
        show SpI w _ n b2 b6 b7 go w4.heap.size xs (-(Gar.negs (wordZ (pre ++ [p])) : Int)) (pre ++ [p]) _
        rw [HZ.out]
        exact HPW.out
      · have HZ : Hid (-(Gar.negs (wordZ (pre ++ [p])) : Int) = -(Gar.negs (wordZ pre) : Int)) := hide (by
          rw [HNX.out, HPM.out]
          simp only [HSG.out, if_neg hyn]
          omega)
        gi_wp2_with fail
        rw [← HQ.out]
        refine ⟨HKF.out, fun hr => hr.grown HGR.out (by omega) (fun hn ad e => by have := HIN.out hn ad e; omega), ?_⟩
        show SpI w _ n b2 b6 b7 go w4.heap.size xs (-(Gar.negs (wordZ (pre ++ [p])) : Int)) (pre ++ [p]) _
        rw [HZ.out]
        exact HMID.out
    · have htm : ((-(m : Int)).tmod 2 != 0) = true := by
        have h : (-(m : Int)).tmod 2 ≠ 0 := fun e => by have := (Int.dvd_iff_tmod_eq_zero (a := 2)).2 e; omega
        simpa using h
      have hxy : mir (N : Int) x 1 = y := by
        rw [← hy]
        unfold mir
        rw [if_neg (by omega), if_neg (show ¬ m % 2 = 0 by omega)]
      have HMI := hide (gmirror_any (N : Int) x W (by omega) (by omega) hxb.1 hxb.2)
      rw [hxy] at HMI
      clear hy hxy
      gi_wp2_with fail
      refine ⟨trivial, (CallsIn.inRound l (callsIn_wide.2 HMI.out)).mono ?_⟩
      rintro e W1 ⟨rfl, hww⟩
      subst hww
      clear HMI htm
      gi_wp2_with fail
      obtain ⟨f, hf⟩ : ∃ f, facL N y = f := ⟨_, rfl⟩
      obtain ⟨f1, f2, _⟩ := facL_val HYO.out
      have HFA := hide (gfactor_any N y W.drew h1 h6 HYO.out)
      rw [hf] at f1 f2 HFA HFC
      have hN2 : 0 < N := by omega
      clear hf hxb hxo c6 c2
      refine wpIn_region_T (S := fun W' => Below W.heap.size W W') 6 (by kernel_rfl) (by kernel_rfl) (fun a w h => HOUT.out a w h) (Below.refl _ _).drew (fun hS => ?_)
      refine wpT_tk 0 (v := .slice (some ⟨go, 0, none⟩) n n) rfl (by kernel_rfl) (by kernel_rfl) (by kernel_rfl) (by kernel_rfl) (yi rfl fun w' hw' => gives_load1 rfl (by kernel_rfl) rfl (by have h := (HI.out.bf.below hw' HI.out.bf.lt).cell 0; simpa using h)) hS ?_
      go_frame
      refine wpT_tk 1 (v := .int .i64 i) rfl (by kernel_rfl) (by kernel_rfl) (by kernel_rfl) (by kernel_rfl) (yi rfl fun w' hw' => gives_move (.inl rfl) rfl) hS ?_
      go_frame
      refine wpT_tk 2 (v := .int .i64 N) rfl (by kernel_rfl) (by kernel_rfl) (by kernel_rfl) (by kernel_rfl) (yi rfl fun w' hw' => gives_load1 rfl (by kernel_rfl) rfl (by have h := (HI.out.bn.below hw' HI.out.bn.lt).cell 0; simpa using h)) hS ?_
      go_frame
      refine wpT_tk 3 (v := .int .i64 y) rfl (by kernel_rfl) (by kernel_rfl) (by kernel_rfl) (by kernel_rfl) (yi rfl fun w' hw' => gives_move (.inl rfl) rfl) hS ?_
      go_frame
      refine wpT_1 4 rfl (by kernel_rfl) ?_
      refine wp_call [.int .i64 N, .int .i64 y] rfl rfl eFactorOf rfl (HFA.out.mono ?_)
      rintro e W5 ⟨A4, n4, c4, rfl, ho, hb5⟩
      have hn4 : n4 = N := by have := ho.len; rw [zs_length, f2] at this; exact this.symm
      subst hn4
      obtain ⟨g4, rfl, _, _⟩ := ho.form hN2
      have hS5 : Below W.heap.size W W5 := hS.trans hb5
      refine ⟨_, rfl, fun _ => hS5, ?_⟩
      go_frame
      refine wpT_tk 5 (v := .pointer (some ⟨go, i * 1, none⟩)) rfl (by kernel_rfl) (by kernel_rfl) (by kernel_rfl) (by kernel_rfl) (yi rfl fun w' hw' => gives_indexB rfl Try.underlying26 (fun w => by kernel_rfl) rfl rfl hi) hS5 ?_
      go_frame
      rw [Nat.mul_one]
      have hbg : ∃ v, W5.cell? ⟨go, i, none⟩ = some v := by
        obtain ⟨cs, hc, hs⟩ := HI.out.bg
        exact ⟨_, by rw [(hc.below hS5 hc.lt).cell]; exact Array.getElem?_eq_getElem (by rw [hs]; exact hi)⟩
      have hfg : W5.frozen? ⟨go, i, none⟩ = false := by
        obtain ⟨cs, hc, hs⟩ := HI.out.bg
        exact (hc.below hS5 hc.lt).frozen i
      obtain ⟨v5, hv5⟩ := hbg
      refine wpT_1 6 rfl (by kernel_rfl) ?_
      refine wp_storeS rfl (by kernel_rfl) (by kernel_rfl) rfl rfl hv5 hfg ?_
      refine ⟨fun h => absurd rfl h, ?_⟩
      go_frame
      refine wpT_done (by kernel_rfl) (noPanic_mk ?_) _
      have hMID := HI.out.mid (p := p) hS5 ho (Nat.le_refl _) (by rw [HPI.out]; exact HFC.out) f1 f2 (by omega) (by omega) hl6g hl7
      rw [HPI.out] at hMID
      have HMID := hide hMID
      have HKF : Hid (KeepsFrom w4.heap.size W (W5.setCell ⟨go, i, none⟩ (.slice (some ⟨g4, 0, none⟩) n4 c4))) := hide ((KeepsFrom.of_grownBy (B := w4.heap.size) (chgA_below (g := go) hS5) (fun r e => by injection e with e; omega)).trans ((KeepsOthers.setCell _ _ _).from _))
      have HGR := hide (chgA_trans (chgA_below (g := go) hS5) (chgA_set (g := go) (i := i) (v := .slice (some ⟨g4, 0, none⟩) n4 c4)))
      obtain ⟨W6, hW6⟩ : ∃ q, W5.setCell ⟨go, i, none⟩ (.slice (some ⟨g4, 0, none⟩) n4 c4) = q := ⟨_, rfl⟩
      rw [hW6] at HMID HKF HGR ⊢
      clear hMID ho hb5 hS hS5 hfg hv5 HFA hW6 HI
      by_cases hyn : y < 0
      · have c6 : W6.cell? ⟨b6, 0, none⟩ = some (.int .i64 (-(m : Int))) := by have h := HMID.out.bp.cell 0; rw [HPM.out] at h; simpa using h
        have f6 := HMID.out.bp.frozen 0
        have hws : IntKind.i64.wrap (-(m : Int) - 1) = -(m : Int) - 1 := by rw [IntKind.wrap_i64]; omega
        have HPW := hide (HMID.out.pow (z' := -(m : Int) - 1) (by omega) (by omega) hl6g hl7 (by omega))
        have HZ : Hid (-(Gar.negs (wordZ (pre ++ [p])) : Int) = -(m : Int) - 1) := hide (by
          rw [HNX.out]
          simp only [HSG.out, if_pos hyn]
          omega)
        gi_wp2_with fail
        rw [← HQ.out]
        refine ⟨HKF.out.trans ((KeepsOthers.setCell _ _ _).from _), fun hr => (hr.grown HGR.out (by omega) (fun hn ad e => by have := HIN.out hn ad e; omega)).setCell (by omega) (fun h ad e => by have := HIN.out h ad e; omega) 0 _, ?_⟩
        show SpI w _ n b2 b6 b7 go w4.heap.size xs (-(Gar.negs (wordZ (pre ++ [p])) : Int)) (pre ++ [p]) _
        rw [HZ.out]
        exact HPW.out
      · have HZ : Hid (-(Gar.negs (wordZ (pre ++ [p])) : Int) = -(Gar.negs (wordZ pre) : Int)) := hide (by
          rw [HNX.out, HPM.out]
          simp only [HSG.out, if_neg hyn]
          omega)
        gi_wp2_with fail
        rw [← HQ.out]
        refine ⟨HKF.out, fun hr => hr.grown HGR.out (by omega) (fun hn ad e => by have := HIN.out hn ad e; omega), ?_⟩
        show SpI w _ n b2 b6 b7 go w4.heap.size xs (-(Gar.negs (wordZ (pre ++ [p])) : Int)) (pre ++ [p]) _
        rw [HZ.out]
        exact HMID.out
  case done =>
    rintro D ys W hD ⟨hlen, hS⟩ hI hK
    have hwd := wordZ_drop HL.out hS
    rw [hlen, Nat.sub_self, List.drop_zero] at hwd
    rw [hwd] at hI
    obtain ⟨gr, cr, hF⟩ := hI.fac hS
    rw [hlen, Nat.sub_self] at hF
    have HF := hide hF
    have HI := hide hI
    have HK := hide hK
    obtain ⟨z, hz⟩ : ∃ z, -(Gar.negs xs : Int) = z := ⟨_, rfl⟩
    have c6 : W.cell? ⟨b6, 0, none⟩ = some (.int .i64 z) := by have h := hI.bp.cell 0; rw [hz] at h; simpa using h
    have c7 : W.cell? ⟨b7, 0, none⟩ = some (.slice (some ⟨go, 0, none⟩) n n) := by have h := hI.bf.cell 0; simpa using h
    have HZ := hide hz
    clear hI hF hK hwd hz hlen hS HI0
    go_upto_region 11 with fail
    go_region
    have HF2 := hide (HF.out.below (Below.refl W.heap.size W).drew)
    have HB2 := hide (HI.out.base.trans ((Below.refl w.heap.size W).drew))
    have HK2 : Hid (W.drew.heap[D]? = some (Obj.deferred (some []))) := HK
    clear HK HF c6 c7
    go_wp2_with fail
    refine ⟨by simp, .inl ⟨_, _, rfl, run_takeDeferred HK2.out, ?_⟩⟩
    have hkr : ∀ r, some D = some r → ∃ o : Obj, W.drew.heap[r]? = some o ∧ o.isCells = false := fun r e => by cases e; exact ⟨_, HK2.out, rfl⟩
    have hgp := grownBy_putObj' W.drew D (.deferred none)
    refine ⟨_, results_gg rfl _ rfl rfl, ?_⟩
    rw [← HZ.out]
    have hr := HF2.out.owned hgp hkr
    exact ⟨go, gr, cr, rfl, ⟨hr.blk, hr.out, fun i a b => (hr.row i a b).mono HW.out.size, hr.per, hr.ne, hr.dis⟩, by omega, HB2.out.grown hgp HB2.out.size (fun r e => by cases e; have := HW.out.size; omega)⟩
  case stop =>
    rintro D c pre W _ _ h _
    exact h.elim
end Go.Proofs.Ytoaiblhlpdaeoaa
/- A slice of rows that the call itself builds, row by row. -/
namespace Go.Proofs.Ytoaiblhlpdaeoaa
set_option linter.unusedVariables false
set_option linter.unusedSimpArgs false
open Go.RowKit

structure MSt (w0 w : World) (A : Option Addr) (n c : Nat) (vs : List Value) (xss : List (List Int)) : Prop where
  own : OwnV w w0.heap.size A n c vs
  rows : RowsI w w0.heap.size vs xss
  below : Below w0.heap.size w0 w
section
variable {w0 w w' : World} {A : Option Addr} {n c : Nat} {vs : List Value} {xss : List (List Int)}
theorem MSt.start (w0 : World) : MSt w0 w0 none 0 0 [] [] := ⟨OwnV.nil_ _ _, RowsI.nil_ _ _, Below.refl _ _⟩
theorem MSt.to (h : MSt w0 w A n c vs xss) (hb : Below w.heap.size w w') : MSt w0 w' A n c vs xss :=
  ⟨h.own.keep (KeepT.below hb), h.rows.keep (KeepT.below hb), h.below.trans (hb.mono h.below.size)⟩
theorem MSt.add {w9 : World} {B A9 : Option Addr} {m d c9 : Nat} {xs : List Int} (h : MSt w0 w A n c vs xss) (hc : OwnI w w0.heap.size B m d xs)
    (happ : AppendedV (w.alloc (.cells #[.slice B m d] 22)) w0.heap.size A (n + 1) c (vs ++ [.slice B m d]) A9 c9 w9) : MSt w0 w9 A9 (n + 1) c9 (vs ++ [.slice B m d]) (xss ++ [xs]) := by
  have hblk : ∀ g, (Value.slice A (n + 1) c).ownBlock = some g → w0.heap.size ≤ g ∧ g < w.heap.size ∧ ∃ (cs : Array Value), w.heap[g]? = some (.cells cs 22 (0, 0)) := by
    intro g hg
    rw [ownBlock_len A (n + 1) n c c] at hg
    obtain ⟨h1, h2⟩ := h.own.lt g hg
    refine ⟨h1, h2, ?_⟩
    rcases h.own.own.2 with ⟨hv, _⟩ | ⟨g', cap, cur, hv, _, hh, _⟩
    · rw [hv] at hg; cases hg
    · rw [hv] at hg
      injection hg with hg
      subst hg
      exact ⟨cur, hh⟩
  have k3 : KeepT 3 w w9 := (KeepT.alloc w _).trans (KeepT.grown happ.grown (fun g hg => by
    obtain ⟨_, h2, cs, h3⟩ := hblk g hg
    exact ⟨22, cs, (Below.heap_alloc w _ g h2).trans h3, by decide⟩))
  exact ⟨happ.own, (h.rows.keep k3).snoc (k3.ownI hc), (h.below.alloc h.below.size _).grown happ.grown (Nat.le_trans h.below.size (by simp)) (fun g hg => (hblk g hg).1)⟩
theorem MSt.sll (h : MSt w0 w A n c vs xss) : SLL w A n c xss := SLL.of_rows h.own h.rows
theorem MSt.len (h : MSt w0 w A n c vs xss) : xss.length = n := by rw [← h.rows.len]; exact h.own.len
end
theorem rows_info : (Try.prog.info? 22).map (fun i => (i.zero, i.size, i.bytes)) = some (some (.slice none 0 0), 1, 24) := by kernel_rfl
end Go.Proofs.Ytoaiblhlpdaeoaa
