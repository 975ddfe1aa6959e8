/- Several texts in one. -/
import Derived.Test.YtndgffiihbdppaaPart12
import Derived.Test.YtndgffiihbdppaaPart2
import Derived.Test.YtndgffiihbdppaaBase1
import Derived.Test.YtndgffiihbdppaaPart11
import Derived.Deep.DeepCutAuto
import Derived.Test.YtndgffiihbdppaaPart1
/- A matrix of polynomials whose rows the call builds one after another by append. -/
namespace Go.Proofs.Ytndgffiihbdppaa
set_option linter.unusedVariables false
set_option linter.unusedSimpArgs false
open Go.RowKit

noncomputable def rowA (n : Nat) (X : Mtx LP) (i : Nat) : List Po := (List.range n).map fun j => cP (X i j)
noncomputable def tabA (n : Nat) (X : Mtx LP) : List (List Po) := (List.range n).map fun i => rowA n X i
theorem rowA_length (n : Nat) (X : Mtx LP) (i : Nat) : (rowA n X i).length = n := by simp [rowA]
theorem rowA_getD {n : Nat} {X : Mtx LP} {i j : Nat} (hj : j < n) : (rowA n X i).getD j (0, []) = cP (X i j) := by simp [rowA, List.getD, hj]
theorem rowA_succ (k : Nat) (X : Mtx LP) (i : Nat) : rowA (k + 1) X i = rowA k X i ++ [cP (X i k)] := by simp [rowA, List.range_succ]
theorem tabA_length (n : Nat) (X : Mtx LP) : (tabA n X).length = n := by simp [tabA]
theorem tabA_getD {n : Nat} {X : Mtx LP} {i : Nat} (hi : i < n) : (tabA n X).getD i [] = rowA n X i := by simp [tabA, List.getD, hi]
/-- i rows of n elements are done, the next one, in R, has k elements. -/
structure GroM (w : World) (base G n i : Nat) (R : Option Addr) (k c : Nat) (vs : List Value) (X : Mtx LP) : Prop where
  blk : ∃ cs, Blk w G 89 cs
  hb : base ≤ G
  dis : Dis w.heap.size [some G, ob R]
  done : ∀ j, j < i → ∃ B d, w.cell? ⟨G, j, none⟩ = some (.slice B n d) ∧ RdS QP 2 (fun b => Fr [some G, ob R] b ∧ b < w.heap.size) w B n d (rowA n X j)
  cell : i < n → w.cell? ⟨G, i, none⟩ = some (.slice R k c)
  rest : ∀ j, i < j → j < n → w.cell? ⟨G, j, none⟩ = some (.slice none 0 0)
  cur : BldO (Fr [some G, ob R]) QP 36 2 base w R k c vs (rowA k X i)
section
variable {w w' : World} {base G n i k c : Nat} {R : Option Addr} {vs : List Value} {X : Mtx LP}
theorem GroM.lt (h : GroM w base G n i R k c vs X) : G < w.heap.size := by obtain ⟨cs, hc⟩ := h.blk; exact hc.lt
theorem GroM.start (h : w.ownsRow base 89 1 (.slice (some ⟨G, 0, none⟩) n n) n (madeCells #[.slice none 0 0] (n * 1)).toList) (hn : n ≤ 1000) (X : Mtx LP) : GroM w base G n 0 none 0 0 [] X := by
  have ho : OwnG 89 1 w base (some ⟨G, 0, none⟩) n n (madeCells #[.slice none 0 0] (n * 1)).toList := ⟨h, by omega⟩
  obtain ⟨cs, hb, hcs⟩ := ho.cells G rfl
  have hc : ∀ j, j < n → w.cell? ⟨G, j, none⟩ = some (.slice none 0 0) := fun j hj => by
    rw [ho.cellAt (by omega), Array.getElem?_toList]
    unfold madeCells
    simp [hj, show j % 1 = 0 by omega]
  have hlt : G < w.heap.size := Blk.lt (w := w) (t := 89) (cs := cs) hcs
  refine ⟨⟨cs, hcs⟩, hb, ⟨fun o ho k e => ?_, ?_⟩, fun j hj => absurd hj (by omega), fun h0 => hc 0 h0, fun j _ hj => hc j hj, BldO.start _ _ _ _ _ _⟩
  · simp [ob] at ho
    rcases ho with rfl | rfl
    · injection e with e; omega
    · cases e
  · simp [ob]
theorem GroM.below (h : GroM w base G n i R k c vs X) (hb : Below w.heap.size w w') : GroM w' base G n i R k c vs X := by
  have hG : ∀ j, w'.cell? ⟨G, j, none⟩ = w.cell? ⟨G, j, none⟩ := fun j => hb.cell (p := ⟨G, j, none⟩) h.lt
  refine ⟨?_, h.hb, h.dis.up hb.size, fun j hj => ?_, fun hi => (hG i).trans (h.cell hi), fun j h1 h2 => (hG j).trans (h.rest j h1 h2), h.cur.to QP_ok hb⟩
  · obtain ⟨cs, hc⟩ := h.blk
    exact ⟨cs, hc.below hb hc.lt⟩
  · obtain ⟨B, d, h1, h2⟩ := h.done j hj
    exact ⟨B, d, (hG j).trans h1, (h2.keep QP_ok ((SameK.below hb).mono fun b hb2 => hb2.2) hb.size).mono QP_ok fun b _ h3 => ⟨h3.1, Nat.lt_of_lt_of_le h3.2 hb.size⟩⟩
/-- One element more. -/
theorem GroM.put (h : GroM w base G n i R k c vs X) {y : LP} (hy : X i k = y) (hi : i < n) {P : Option Addr} {pn pc : Nat} (hp : SLK (fun b => Fr [some G, ob R] b ∧ b < w.heap.size) w P pn pc (LP.canon y).2) (hw : (Lit.int .i64 (LP.canon y).1).wf = true)
    {R' : Option Addr} {c' : Nat} {w9 : World} (happ : AppG 36 2 w base R (k + 1) c (vs ++ [.int .i64 (LP.canon y).1, .slice P pn pc]) R' c' w9) :
    GroM (w9.setCell ⟨G, i, none⟩ (.slice R' (k + 1) c')) base G n i R' (k + 1) c' (vs ++ [.int .i64 (LP.canon y).1, .slice P pn pc]) X := by
  subst hy
  have s1 : Step [some G, ob R] [some G, ob R'] w w9 (ob R) := Step.app (O := [some G, ob R]) (i := 1) h.dis rfl happ
  have hgr : w9.grownBy (w9.setCell ⟨G, i, none⟩ (.slice R' (k + 1) c')) (some G) := chg_set
  have s2 : Step [some G, ob R'] [some G, ob R'] w9 (w9.setCell ⟨G, i, none⟩ (.slice R' (k + 1) c')) (some G) := Step.put s1.dis (by simp) hgr
  have hne : ob R ≠ some G := h.dis.ne (O := [some G, ob R]) (i := 1) (j := 0) rfl rfl (by omega) G rfl
  have hne2 : ∀ k, ob R' = some k → some G ≠ some k := s1.dis.ne (O := [some G, ob R']) (i := 0) (j := 1) rfl rfl (by omega)
  obtain ⟨cs, hcs⟩ := h.blk
  have b9 : Blk w9 G 89 cs := s1.blk hcs hne
  have hG : ∀ j, w9.cell? ⟨G, j, none⟩ = w.cell? ⟨G, j, none⟩ := fun j => by rw [b9.cell, hcs.cell]
  have hother : ∀ j, j ≠ i → (w9.setCell ⟨G, i, none⟩ (.slice R' (k + 1) c')).cell? ⟨G, j, none⟩ = w.cell? ⟨G, j, none⟩ := fun j hj => by
    rw [World.cell?_setCell_other w9 _ _ _ (by intro h2; simp only [Addr.mk.injEq] at h2; omega)]
    exact hG j
  refine ⟨⟨_, b9.set_ i _⟩, h.hb, s2.dis, fun j hj => ?_, fun _ => ?_, fun j h1 h2 => ?_, ?_⟩
  · obtain ⟨B, d, h1, h2⟩ := h.done j hj
    exact ⟨B, d, (hother j (by omega)).trans h1, (h2.step QP_ok s1).step QP_ok s2⟩
  · exact World.cell?_setCell_same w9 _ _ ((hG i).trans (h.cell hi))
  · rw [hother j (by omega)]
    exact h.rest j h1 h2
  · rw [rowA_succ]
    have h3 : BldO (Fr [some G, ob R']) QP 36 2 base w9 R' (k + 1) c' (vs ++ [.int .i64 (LP.canon (X i k)).1, .slice P pn pc]) (rowA k X i ++ [cP (X i k)]) := h.cur.addS QP_ok s1 rfl rfl ⟨P, pn, pc, rfl, hp, hw⟩ happ
    exact h3.step QP_ok s2 hne2
/-- The row is done. -/
theorem GroM.next (h : GroM w base G n i R n c vs X) (hi : i < n) : GroM w base G n (i + 1) none 0 0 [] X := by
  have hd := h.dis
  refine ⟨h.blk, h.hb, Dis.drop (O := [some G, ob R]) (i := 1) hd, fun j hj => ?_, fun h1 => h.rest (i + 1) (by omega) h1, fun j h1 h2 => h.rest j (by omega) h2, BldO.start _ _ _ _ _ _⟩
  by_cases e : j = i
  · subst e
    refine ⟨R, c, h.cell hi, h.cur.rdK QP_ok (by omega) (fun b hb hf => ⟨Fr.drop (O := [some G, ob R]) (i := 1) hf, hb⟩) fun g hg => ⟨Fr.dropped (O := [some G, ob R]) (i := 1) hd rfl (by rw [← ob_own R n c]; exact hg), (h.cur.own.lt g hg).2⟩⟩
  · obtain ⟨B, d, h1, h2⟩ := h.done j (by omega)
    exact ⟨B, d, h1, h2.mono QP_ok fun b _ hf => ⟨Fr.drop (O := [some G, ob R]) (i := 1) hf.1, hf.2⟩⟩
theorem GroM.spp (h : GroM w base G n n R k c vs X) (hn : n ≤ 1000) : SPP w (some ⟨G, 0, none⟩) n n (tabA n X) := by
  refine ⟨tabA_length _ _, by omega, fun e => (by cases e), Nat.le_refl _, fun h0 => ⟨_, rfl, h.lt, fun j hj => ?_⟩⟩
  obtain ⟨B, d, h1, h2⟩ := h.done j hj
  have e2 : (⟨G, 0, none⟩ : Addr).add j = ⟨G, j, none⟩ := by unfold Addr.add; split <;> simp_all
  rw [tabA_getD hj, e2]
  exact ⟨B, n, d, h1, Rd.spo (h2.mono QP_ok fun b _ hf => hf.2)⟩
theorem GroM.own (h : GroM w base G n i R k c vs X) : OwnG 36 2 w base R k c vs := h.cur.own
/-- What a call gives as new memory is no part of the matrix. -/
theorem GroM.far (h : GroM w base G n i R k c vs X) {P : Option Addr} {pn pc : Nat} {xs : List Int} (hs : SL w' P pn pc xs) (hn : NewA w P pn) : SLK (fun b => Fr [some G, ob R] b ∧ b < w'.heap.size) w' P pn pc xs :=
  ⟨hs, fun h0 ad e => ⟨Fr.above h.dis (hn h0 ad e), hs.inside h0 ad e⟩⟩
theorem GroM.ne (h : GroM w base G n i R k c vs X) : ob R ≠ some G := h.dis.ne (O := [some G, ob R]) (i := 1) (j := 0) rfl rfl (by omega) G rfl
/-- Blocks below the base are none of its blocks. -/
theorem GroM.old (h : GroM w base G n i R k c vs X) {b : Nat} (hb : b < base) : ob R ≠ some b := fun e => by
  have := (h.own.lt b (by rw [ob_own]; exact e)).1
  omega
end
theorem gives_idxG {P : Program} {o : Oper} {a : Act} {w : World} {t e : TypeId} {x y : Operand} {g k n c : Nat} {q : IntKind} (ho : o.op = .indexAddr t x y) (ht : P.underlying t = some (.slice e)) (he : ∀ w, (sizeOf e).run P w = .ok 1 w) (hx : a.eval x = .slice (some ⟨g, 0, none⟩) n c) (hy : a.eval y = .int q k) (hk : k < n) :
    Gives P o a w (.pointer (some ⟨g, k, none⟩)) := by
  have h := gives_indexA (w := w) ho ht he hx hy hk
  rwa [Addr.add_mid, Nat.zero_add] at h
theorem wp_append_G {P : Program} {w : World} {o : Oper} {a : Act} {K : Act → World → Prop} {Q : Exit → Act → World → Prop} (s x : Operand) (t : TypeId)
    (ho : o.op = .call { callee := .builtin .append, args := #[s, x], argTypes := #[t, t] })
    (base : Nat) (e : TypeId) (i : TypeInfo) (z : Value) (sz by_ : Nat) (ht : P.underlying t = some (.slice e)) (hi : P.info? e = some i) (hz : i.zero = some z) (hsize : i.size = sz) (hby : i.bytes = by_) (hzs : z.cells.size = sz) (hs0 : 0 < sz) (hbs : by_ ≤ 10000)
    (A : Option Addr) (n c : Nat) (vs : List Value) (hs : a.eval s = .slice A n c) (hown : OwnG e sz w base A n c vs) (ad : Addr) (m d : Nat) (us : List Value) (hm : us.length = m * sz) (hx : a.eval x = .slice (some ad) m d) (hu : ∀ j u, us[j]? = some u → w.cell? (ad.add j) = some u) (h1 : ∀ u, u ∈ us → u.oneCell' = true)
    (hsm : n + m ≤ 1000000) (hbase : base ≤ w.heap.size)
    (h : ∀ A' c' w', AppG e sz w base A (n + m) c (vs ++ us) A' c' w' → K (a.put o.dst (.slice A' (n + m) c')) w') : o.wp P a w K Q := by
  have hb2 : (n + m) * by_ ≤ 140737488355328 := by
    have := Nat.mul_le_mul hsm hbs
    omega
  obtain ⟨v', w', hrun, h2, h3, _, h5⟩ := run_append_own_at (P := P) w base t o.type e i z sz by_ ht hi hz hsize hby hzs hs0 (.slice A n c) n _ hown.own ad m d us
    hm hu h1 (by simp only [maxLen]; omega) hb2 hbase
  have hv : ∃ A' c', v' = .slice A' (n + m) c' := by
    rcases h2.2 with ⟨rfl, h0⟩ | ⟨g, cap, cur, rfl, _⟩
    · exact ⟨none, 0, by rw [h0]⟩
    · exact ⟨_, _, rfl⟩
  obtain ⟨A', c', rfl⟩ := hv
  unfold Oper.wp execOp
  simp only [ho, resolve, invoke, builtin, Sem.run_bind, Sem.run_pure, Result.andThen_ok, List.map_toArray, List.map_cons, List.map_nil, hs, hx, hrun]
  exact h A' c' w' ⟨⟨h2, hsm⟩, by rw [ownBlock_len A (n + m) n c c]; exact h3, by rw [ownBlock_len A (n + m) n c c]; exact h5⟩
theorem cells_pair {w : World} {g : Nat} {t : TypeId} {u v : Value} (h : Blk w g t #[u, v]) : ∀ j x, [u, v][j]? = some x → w.cell? ((⟨g, 0, none⟩ : Addr).add j) = some x := by
  intro j x hx
  have e : (⟨g, 0, none⟩ : Addr).add j = ⟨g, j, none⟩ := by unfold Addr.add; split <;> simp_all
  rw [e, h.cell j]
  simpa using hx
end Go.Proofs.Ytndgffiihbdppaa
/- Package alexander: identityMinus. (Written by tools/gen_al3.py.) -/
namespace Go.Proofs.Ytndgffiihbdppaa
set_option linter.unusedVariables false
set_option linter.unusedSimpArgs false
open Go.RowKit

/-- A matrix of polynomials. -/
def GivesMt (w : World) (n : Nat) (X : Mtx LP) (e : Ending) (w' : World) : Prop := ∃ A c, e = .returned (.slice A n c) ∧ SPP w' A n c (tabA n X) ∧ Below w.heap.size w w'

set_option maxRecDepth 100000 in
set_option maxHeartbeats 8000000 in
theorem im_any (F : PolyC) (B : Option Addr) (m d : Nat) (pss : List (List Po)) (n : Nat) (X : Mtx LP) (w : World) (hb : SPP w B m d pss) (hnm : n ≤ m) (hn6 : n ≤ 6)
    (hX : ∀ i, i < n → ∀ j, j < n → (pss.getD i []).getD j (0, []) = cP (X i j)) (hl : ∀ i, i < n → n ≤ (pss.getD i []).length)
    (rX : ∀ i, i < n → ∀ j, j < n → LP.Rt (X i j)) (rD : ∀ i, i < n → ∀ j, j < n → LP.Rt (oneM i j + -(X i j))) :
    Calls Try.prog 57 #[.slice B m d, .int .i64 n] w (GivesMt w n fun i j => oneM i j + -(X i j)) := by
  have r1 : ∀ i j, LP.Rt ((oneM : Mtx LP) i j) := fun i j => by
    unfold oneM
    split
    · exact LP.N1.one.rt (by omega) (by omega)
    · exact LP.N1.zero.rt (by omega) (by omega)
  obtain ⟨D, hD⟩ : ∃ D : Mtx LP, (fun i j => oneM i j + -(X i j)) = D := ⟨_, rfl⟩
  have HSB := hide (fun i (hi : i < n) j (hj : j < n) => (by
    have h := al_sub F (r1 i j) (rX i hi j hj) (rD i hi j hj)
    have e : oneM i j + -(X i j) = D i j := congrFun (congrFun hD i) j
    rw [e] at h
    exact h :
    ∀ (w : World) (A : Option Addr) (n c : Nat) (B : Option Addr) (m d : Nat), SL w A n c (LP.canon ((oneM : Mtx LP) i j)).2 → SL w B m d (LP.canon (X i j)).2 → Calls Try.prog 81 #[PV (LP.canon ((oneM : Mtx LP) i j)).1 A n c, PV (LP.canon (X i j)).1 B m d] w (GivesPE w (0, (LP.canon (D i j)).1, (LP.canon (D i j)).2))))
  have HRD : Hid (∀ i, i < n → ∀ j, j < n → LP.Rt (D i j)) := hide (by rw [← hD]; exact rD)
  rw [hD]
  have HCE : Hid (∀ i, LP.canon ((oneM : Mtx LP) i i) = (0, [1])) := hide (fun i => by
    unfold oneM
    rw [if_pos rfl]
    exact LP.canon_eq (.inr ⟨by simp, by decide, by decide⟩) rfl)
  have HCN : Hid (∀ i j, i ≠ j → LP.canon ((oneM : Mtx LP) i j) = (0, [])) := hide (fun i j h => by
    unfold oneM
    rw [if_neg h]
    exact LP.canon_zero)
  have HB := hide hb
  have HXX := hide hX
  have HLL := hide hl
  obtain ⟨i0, hi0, hz0, hz1, hz2⟩ := info_parts prows_info
  obtain ⟨i1, hi1, hy0, hy1, hy2⟩ := info_parts polys_info
  obtain ⟨ii, hii, hq0, hq1, hq2⟩ := info_parts int_info
  have HI1 := hide hi1
  have HY0 := hide hy0
  have HY1 := hide hy1
  have HY2 := hide hy2
  clear F hb hX hl rX rD hD r1 hi1 hy0 hy1 hy2
  go_enter Try.func57, Try.ntmps57
  go_wp2_with (at_make; refine wpList_make_full _ rfl _ _ 68 rfl w.heap.size 89 i0 (.slice none 0 0) 1 Try.underlying68 hi0 hz0 hz1 .i64 .i64 _ _ n rfl rfl rfl rfl (by rw [hz2]; omega) (by unfold maxLen; omega) (Nat.le_refl _) ?_; intro w2 hown2 hg2)
  obtain ⟨G, hG⟩ : ∃ G, w.heap.size = G := ⟨_, rfl⟩
  have hB2 : Below w.heap.size w w2 := (Below.refl _ _).grown hg2 (Nat.le_refl _) (by intro k hk; cases hk)
  have HM2 : Hid (GroM w2 G G n 0 none 0 0 [] D) := hide (by rw [← hG]; exact GroM.start hown2 (by omega) D)
  have HB2 := hide hB2
  have HG := hide hG
  rw [hG]
  clear hown2 hg2 hB2 hG hi0 hz0 hz1 hz2
  go_loopw [15] (fun iv wr => ∃ i : Nat, iv = .int .i64 i ∧ i ≤ n ∧ Hid (GroM wr G G n i none 0 0 [] D) ∧ Hid (Below w.heap.size w wr)) (fun iv _ => n - (intOf iv).toNat)
  case atStart => exact ⟨0, rfl, Nat.zero_le _, HM2, HB2⟩
  case round =>
    clear HM2 HB2
    obtain ⟨i, rfl, hi, HM, HW⟩ := hrel
    by_cases hin : i < n
    · have HML : Hid (∃ (R : Option Addr) (c : Nat) (vs : List Value), GroM wr G G n i R 0 c vs D) := hide ⟨none, 0, [], HM.out⟩
      have HWL := HW
      have HIN := hide hin
      have HII := hide hi
      rename World => wo
      clear HM HW hi
      go_wp2_with fail
      clear hin
      go_loopw [19] (fun jv wx => ∃ k : Nat, jv = .int .i64 k ∧ k ≤ n ∧ Hid (∃ (R : Option Addr) (c : Nat) (vs : List Value), GroM wx G G n i R k c vs D) ∧ Hid (Below w.heap.size w wx)) (fun jv _ => n - (intOf jv).toNat)
      case atStart => exact ⟨0, rfl, Nat.zero_le _, HML, HWL⟩
      case round =>
        clear HML HWL
        obtain ⟨k, rfl, hk, HM, HW⟩ := hrel
        by_cases hkn : k < n
        · obtain ⟨R, c, vs, hM⟩ := HM.out
          have hin := HIN.out
          have HG0 : Hid (G ≤ wr.heap.size) := hide (Nat.le_of_lt hM.lt)
          have HM1 := hide hM
          clear HM hM
          obtain ⟨bd, Q, qn, qc, hB, q2, sq⟩ := (HB.out.below HW.out).at_ (Nat.lt_of_lt_of_le hin hnm)
          have hjq : k < qn := by have h1 := HLL.out i hin; rw [sq.len] at h1; omega
          obtain ⟨cd, T, tn, tc, hQ, q3, q4, st, _⟩ := sq.at_ hjq
          rw [HXX.out i hin k hkn] at q3 st
          subst hB
          subst hQ
          rw [show bd.add i = bd.add (i * 1) by rw [Nat.mul_one]] at q2
          dsimp only [cP] at q3 st
          have HSU := hide (HSB.out i hin k hkn)
          have HRT := hide (HRD.out i hin k hkn)
          generalize X i k = x at *
          have hb : Below wr.heap.size wr (wr.alloc (.cells #[.int .i64 0, .slice none 0 0] 36)) := (Below.refl _ _).alloc (Nat.le_refl _) _
          have Q2 := hide q2
          have Q3 := hide q3
          have Q4 := hide q4
          have ST := hide st
          have HWR := hide hb
          have BI := hide (Blk.new wr 36 #[.int .i64 0, .slice none 0 0])
          have HJQ := hide hjq
          have HKM := hide (Nat.lt_of_lt_of_le hin hnm)
          have HKN := hide hkn
          clear st sq q2 q3 q4 hb hjq hk hkn
          go_upto_if 24 with fail
          obtain ⟨b8, hq⟩ : ∃ q, wr.heap.size = q := ⟨_, rfl⟩
          obtain ⟨w1, hw⟩ : ∃ x, wr.alloc (.cells #[.int .i64 0, .slice none 0 0] 36) = x := ⟨_, rfl⟩
          rw [hw] at HWR BI ⊢
          rw [hq] at BI HWR ⊢
          have HQ8 := hide hq
          clear hw hq
          go_cut [25, 26] (fun _ _ wx => ∃ O on oc, Blk wx b8 36 #[.int .i64 0, .slice O on oc] ∧ SL wx O on oc (LP.canon ((oneM : Mtx LP) i k)).2 ∧ Below b8 w1 wx)
          case first =>
            by_cases hik : i = k
            · have ht : ((i : Int) == (k : Int)) = true := by simp [hik]
              have hl : SL (w1.alloc (.cells #[.int .i64 1] 3)) (some ⟨w1.heap.size, 0, none⟩) 1 1 [1] := SL.lit w1 [1] (by decide) rfl rfl
              have hbl : Below w1.heap.size w1 (w1.alloc (.cells #[.int .i64 1] 3)) := (Below.refl _ _).alloc (Nat.le_refl _) _
              have l8 := BI.out.lt
              have B8 := hide (BI.out.below hbl l8)
              have c1 := B8.out.cell 1
              have f1 := B8.out.frozen 1
              simp at c1
              have HLL1 := hide hl
              have HBB : Hid (Below b8 w1 ((w1.alloc (.cells #[.int .i64 1] 3)).setCell ⟨b8, 1, none⟩ (.slice (some ⟨w1.heap.size, 0, none⟩) 1 1))) := hide ((hbl.mono (Nat.le_of_lt l8)).setCell (p := ⟨b8, 1, none⟩) (Nat.le_refl _) _)
              have hbl8 : b8 < (w1.alloc (.cells #[.int .i64 1] 3)).heap.size := B8.out.lt
              have hne : (⟨w1.heap.size, 0, none⟩ : Addr).block ≠ b8 := by show w1.heap.size ≠ b8; omega
              have HLS := hide (HLL1.out.setCell (b := b8) (fun _ ad e => by injection e with e; rw [← e]; exact hne) 1 (.slice (some ⟨w1.heap.size, 0, none⟩) 1 1))
              have HBS : Hid (Blk ((w1.alloc (.cells #[.int .i64 1] 3)).setCell ⟨b8, 1, none⟩ (.slice (some ⟨w1.heap.size, 0, none⟩) 1 1)) b8 36 #[.int .i64 0, .slice (some ⟨w1.heap.size, 0, none⟩) 1 1]) := hide (B8.out.set_ 1 (.slice (some ⟨w1.heap.size, 0, none⟩) 1 1))
              have HEE : Hid ((LP.canon ((oneM : Mtx LP) i k)).2 = [1]) := hide (by rw [← hik, HCE.out])
              clear hl hbl hne l8 hik
              go_wp2_with fail
              go_meet
              exact ⟨_, 1, 1, HBS.out, by rw [HEE.out]; exact HLS.out, HBB.out⟩
            · have ht : ((i : Int) == (k : Int)) = false := by simp; omega
              have HEE : Hid ((LP.canon ((oneM : Mtx LP) i k)).2 = []) := hide (by rw [HCN.out i k hik])
              clear hik
              go_wp2_with fail
              go_meet
              exact ⟨none, 0, 0, BI.out, by rw [HEE.out]; exact SL.nil_ _, Below.refl _ _⟩
          case rest =>
            obtain ⟨O, on, oc, hbk, hsl, hb⟩ := hcut
            have e1 : (LP.canon ((oneM : Mtx LP) i k)).1 = 0 := by
              by_cases hik : i = k
              · rw [← hik, HCE.out]
              · rw [HCN.out i k hik]
            have hbw : Below wr.heap.size wr wc := by rw [HQ8.out]; exact HWR.out.trans hb
            have BP := hide hbk
            have SP := hide hsl
            have LP0 := hide hbk.lt
            replace ST := hide (ST.out.below hbw)
            replace HM1 := hide (HM1.out.below hbw)
            replace Q2 := hide ((hbw.cell (p := bd.add (i * 1)) (cell_lt Q2.out)).trans Q2.out)
            replace Q4 := hide ((hbw.cell (p := ⟨(cd.add (k * 2)).block, (cd.add (k * 2)).off + 1, none⟩) (cell_lt Q4.out)).trans Q4.out)
            replace Q3 := hide ((hbw.cell (p := cd.add (k * 2)) (cell_lt Q3.out)).trans Q3.out)
            have HL2 := hide (cell_lt Q2.out)
            have HL3 := hide (cell_lt Q3.out)
            replace HWR := hide hbw
            clear hbk hsl hb BI hbw HQ8
            obtain ⟨g3, o3, h3⟩ := cell_at_var Q3.out
            rw [h3] at Q3 Q4 HL3
            rw [e1] at HSU
            generalize (LP.canon ((oneM : Mtx LP) i k)).2 = os at *
            obtain ⟨xy, hxy⟩ : ∃ y, D i k = y := ⟨_, rfl⟩
            rw [hxy] at HSU HRT
            have HXY := hide hxy
            clear hxy
            go_upto_region 11 with fail
            go_cut [9, 10, 27, 28, 29, 30, 31, 32, 33, 34, 35, 36, 37, 38] (fun v u _ _ _ _ _ _ _ _ _ _ _ _ wx => ∃ bG U gn gc, v = .pointer (some ⟨bG, 0, none⟩) ∧ u = .int .i64 0 ∧ Blk wx bG 36 #[.int .i64 (LP.canon xy).1, .slice U gn gc] ∧ SL wx U gn gc (LP.canon xy).2 ∧ NewA wc U gn ∧ wc.heap.size ≤ bG ∧ Below wc.heap.size wc wx)
            case first =>
              refine wp_region_noPanic ?_
              refine wp_region_held_drew (S := fun x => Below wc.heap.size wc x) (by kernel_rfl) (Below.refl _ _).drew (fun hS0 => ?_)
              refine wpAnyH_tk 0 (v := PV 0 O on oc) rfl (by kernel_rfl) (by kernel_rfl) (by kernel_rfl) (yi rfl fun w' hw' => gives_loadRow rfl rfl (BP.out.below hw' LP0.out) Try.underlying36 (by kernel_rfl) (by kernel_rfl)) hS0 ?_
              go_frame
              refine wpAnyH_tk 1 (v := .slice (some bd) m d) rfl (by kernel_rfl) (by kernel_rfl) (by kernel_rfl) (yi rfl fun w' hw' => gives_move (.inl rfl) rfl) hS0 ?_
              go_frame
              refine wpAnyH_tk 2 (v := .int .i64 i) rfl (by kernel_rfl) (by kernel_rfl) (by kernel_rfl) (yi rfl fun w' hw' => gives_move (.inl rfl) rfl) hS0 ?_
              go_frame
              refine wpAnyH_tk 3 (v := .pointer (some (bd.add (i * 1)))) rfl (by kernel_rfl) (by kernel_rfl) (by kernel_rfl) (yi rfl fun w' hw' => gives_indexSlice rfl Try.underlying68 (fun w => by kernel_rfl) rfl rfl HKM.out) hS0 ?_
              go_frame
              refine wpAnyH_tk 4 (v := .slice (some cd) qn qc) rfl (by kernel_rfl) (by kernel_rfl) (by kernel_rfl) (yi rfl fun w' hw' => gives_load1 rfl (by kernel_rfl) rfl ((hw'.cell (p := bd.add (i * 1)) HL2.out).trans Q2.out)) hS0 ?_
              go_frame
              refine wpAnyH_tk 5 (v := .int .i64 k) rfl (by kernel_rfl) (by kernel_rfl) (by kernel_rfl) (yi rfl fun w' hw' => gives_move (.inl rfl) rfl) hS0 ?_
              go_frame
              refine wpAnyH_tk 6 (v := .pointer (some (cd.add (k * 2)))) rfl (by kernel_rfl) (by kernel_rfl) (by kernel_rfl) (yi rfl fun w' hw' => gives_indexSlice rfl Try.underlying89 (fun w => by kernel_rfl) rfl rfl HJQ.out) hS0 ?_
              go_frame
              rw [h3]
              refine wpAnyH_tk 7 (v := PV (LP.canon x).1 T tn tc) rfl (by kernel_rfl) (by kernel_rfl) (by kernel_rfl) (yi rfl fun w' hw' => gives_loadMid (cs := [.int .i64 (LP.canon x).1, .slice T tn tc]) rfl rfl (rangeAt_two ((hw'.cell (p := ⟨g3, o3, none⟩) HL3.out).trans Q3.out) ((hw'.cell (p := ⟨g3, o3 + 1, none⟩) HL3.out).trans Q4.out)) Try.underlying36 (by kernel_rfl) (by kernel_rfl)) hS0 ?_
              go_frame
              refine wpAnyH_2 8 12 rfl rfl (by kernel_rfl) ?_ ?_
              · refine wp_call [PV 0 O on oc, PV (LP.canon x).1 T tn tc] rfl rfl eAlSub rfl ((HSU.out wc.drew O on oc T tn tc (SP.out.below hS0) (ST.out.below hS0)).mono ?_)
                rintro e u1 ⟨U, gn, gc, rfl, hs, hN, hb⟩
                dsimp only at hs ⊢
                have HNW : NewA wc U gn := fun h ad e => Nat.le_trans hS0.size (hN h ad e)
                have hS1 : Below wc.heap.size wc u1 := hS0.trans (hb.mono hS0.size)
                have SG := hide hs
                clear hb hs
                refine ⟨_, rfl, hS1, ?_⟩
                go_frame
                refine wpAnyH_tk 9 (v := .tuple #[PV (LP.canon xy).1 U gn gc, .int .i64 0]) rfl (by kernel_rfl) (by kernel_rfl) (by kernel_rfl) (yi rfl fun w' hw' => gives_move (.inl rfl) rfl) hS1 ?_
                go_frame
                refine wpAnyH_tk 10 (v := PV (LP.canon xy).1 U gn gc) rfl (by kernel_rfl) (by kernel_rfl) (by kernel_rfl) (yi rfl fun w' hw' => gives_extract rfl rfl rfl) hS1 ?_
                go_frame
                refine wpAnyH_tk 11 (v := .int .i64 0) rfl (by kernel_rfl) (by kernel_rfl) (by kernel_rfl) (yi rfl fun w' hw' => gives_extract rfl rfl rfl) hS1 ?_
                go_frame
                refine wpAnyH_1 12 rfl (by kernel_rfl) ?_
                have hS2 : Below wc.heap.size wc (u1.alloc (.cells #[.int .i64 0, .slice none 0 0] 36)) := hS1.alloc hS1.size _
                have hb : Below u1.heap.size u1 (u1.alloc (.cells #[.int .i64 0, .slice none 0 0] 36)) := (Below.refl _ _).alloc (Nat.le_refl _) _
                have g_bG : wc.heap.size ≤ u1.heap.size := hS1.size
                have ne_bG : 0 < gn → ∀ ad, U = some ad → ad.block ≠ u1.heap.size := fun h ad e => by obtain ⟨ad2, e2, hl, _⟩ := SG.out.il.mem h; rw [e] at e2; cases e2; omega
                replace SG := hide (SG.out.below hb)
                have BG := hide (Blk.new u1 36 #[.int .i64 0, .slice none 0 0])
                refine wp_alloc (z := .agg #[.int .i64 0, .slice none 0 0]) (cs := #[.int .i64 0, .slice none 0 0]) rfl (by kernel_rfl) rfl ⟨hS2, ?_⟩
                obtain ⟨bG, hq⟩ : ∃ q, u1.heap.size = q := ⟨_, rfl⟩
                rw [hq] at BG g_bG ne_bG ⊢
                obtain ⟨u2, hw⟩ : ∃ x, u1.alloc (.cells #[.int .i64 0, .slice none 0 0] 36) = x := ⟨_, rfl⟩
                rw [hw] at hS2 BG SG ⊢
                clear hb hw hq
                go_frame
                refine wpAnyH_1 13 rfl (by kernel_rfl) ?_
                have hS3 : Below wc.heap.size wc (u2.setRow bG #[.int .i64 (LP.canon xy).1, .slice U gn gc]) := Below.setRow_ hS2 g_bG _
                refine wp_storeRow rfl rfl rfl BG.out (by kernel_rfl) rfl (by kernel_rfl) ⟨hS3, ?_⟩
                replace SG := hide (SG.out.setRow_ ne_bG #[.int .i64 (LP.canon xy).1, .slice U gn gc])
                have hbk2 : Blk (u2.setRow bG #[.int .i64 (LP.canon xy).1, .slice U gn gc]) bG 36 #[.int .i64 (LP.canon xy).1, .slice U gn gc] := setRow_heap _ _ _ _ _ _ BG.out
                replace BG := hide hbk2
                clear hbk2
                go_frame
                refine wpAnyH_tk 14 (v := .int .i64 0) rfl (by kernel_rfl) (by kernel_rfl) (by kernel_rfl) (yi rfl fun w' hw' => gives_move (.inr rfl) rfl) hS3 ?_
                go_frame
                refine wpAnyH_done (by kernel_rfl) (noPanic_mk ?_) _
                have hNN : NewA wc U gn := HNW
                go_wp2_with fail
                go_meet
                exact ⟨bG, U, gn, gc, rfl, rfl, BG.out, SG.out, hNN, g_bG, hS3⟩
              · have hS4 : Below wc.heap.size wc (wc.drew.alloc (.cells #[.int .i64 0, .slice none 0 0] 36)) := hS0.alloc hS0.size _
                have hb : Below wc.drew.heap.size wc.drew (wc.drew.alloc (.cells #[.int .i64 0, .slice none 0 0] 36)) := (Below.refl _ _).alloc (Nat.le_refl _) _
                have g_bG : wc.heap.size ≤ wc.drew.heap.size := hS0.size
                have BG := hide (Blk.new wc.drew 36 #[.int .i64 0, .slice none 0 0])
                refine wp_alloc (z := .agg #[.int .i64 0, .slice none 0 0]) (cs := #[.int .i64 0, .slice none 0 0]) rfl (by kernel_rfl) rfl ⟨hS4, ?_⟩
                obtain ⟨bG, hq⟩ : ∃ q, wc.drew.heap.size = q := ⟨_, rfl⟩
                rw [hq] at BG g_bG  ⊢
                obtain ⟨u4, hw⟩ : ∃ x, wc.drew.alloc (.cells #[.int .i64 0, .slice none 0 0] 36) = x := ⟨_, rfl⟩
                rw [hw] at hS4 BG ⊢
                clear hb hw hq
                go_frame
                refine wpAnyH_1 8 rfl (by kernel_rfl) ?_
                refine wp_call [PV 0 O on oc, PV (LP.canon x).1 T tn tc] rfl rfl eAlSub rfl ((HSU.out u4 O on oc T tn tc (SP.out.below hS4) (ST.out.below hS4)).mono ?_)
                rintro e u5 ⟨U, gn, gc, rfl, hs, hN, hb⟩
                dsimp only at hs ⊢
                have HNW : NewA wc U gn := fun h ad e => Nat.le_trans hS4.size (hN h ad e)
                have hS5 : Below wc.heap.size wc u5 := hS4.trans (hb.mono hS4.size)
                have ne_bG : 0 < gn → ∀ ad, U = some ad → ad.block ≠ bG := fun h ad e => by have := hN h ad e; have := BG.out.lt; omega
                replace BG := hide (BG.out.below hb BG.out.lt)
                have SG := hide hs
                clear hb hs
                refine ⟨_, rfl, hS5, ?_⟩
                go_frame
                refine wpAnyH_tk 9 (v := .tuple #[PV (LP.canon xy).1 U gn gc, .int .i64 0]) rfl (by kernel_rfl) (by kernel_rfl) (by kernel_rfl) (yi rfl fun w' hw' => gives_move (.inl rfl) rfl) hS5 ?_
                go_frame
                refine wpAnyH_tk 10 (v := PV (LP.canon xy).1 U gn gc) rfl (by kernel_rfl) (by kernel_rfl) (by kernel_rfl) (yi rfl fun w' hw' => gives_extract rfl rfl rfl) hS5 ?_
                go_frame
                refine wpAnyH_tk 11 (v := .int .i64 0) rfl (by kernel_rfl) (by kernel_rfl) (by kernel_rfl) (yi rfl fun w' hw' => gives_extract rfl rfl rfl) hS5 ?_
                go_frame
                refine wpAnyH_1 13 rfl (by kernel_rfl) ?_
                have hS6 : Below wc.heap.size wc (u5.setRow bG #[.int .i64 (LP.canon xy).1, .slice U gn gc]) := Below.setRow_ hS5 g_bG _
                refine wp_storeRow rfl rfl rfl BG.out (by kernel_rfl) rfl (by kernel_rfl) ⟨hS6, ?_⟩
                replace SG := hide (SG.out.setRow_ ne_bG #[.int .i64 (LP.canon xy).1, .slice U gn gc])
                have hbk2 : Blk (u5.setRow bG #[.int .i64 (LP.canon xy).1, .slice U gn gc]) bG 36 #[.int .i64 (LP.canon xy).1, .slice U gn gc] := setRow_heap _ _ _ _ _ _ BG.out
                replace BG := hide hbk2
                clear hbk2
                go_frame
                refine wpAnyH_tk 14 (v := .int .i64 0) rfl (by kernel_rfl) (by kernel_rfl) (by kernel_rfl) (yi rfl fun w' hw' => gives_move (.inr rfl) rfl) hS6 ?_
                go_frame
                refine wpAnyH_done (by kernel_rfl) (noPanic_mk ?_) _
                have hNN : NewA wc U gn := HNW
                go_wp2_with fail
                go_meet
                exact ⟨bG, U, gn, gc, rfl, rfl, BG.out, SG.out, hNN, g_bG, hS6⟩
            case rest =>
              obtain ⟨bG, U, gn, gc, rfl, rfl, hbk, hsl, hnw, hbg, hb⟩ := hcut
              rename World => wp
              have hM := HM1.out
              have hz : SLK (fun b => Fr [some G, ob R] b ∧ b < wp.heap.size) wp U gn gc (LP.canon xy).2 := hM.far hsl hnw
              have hM2 := hM.below hb
              have hW2 := HW.out.trans ((HWR.out.trans (hb.mono HWR.out.size)).mono HW.out.size)
              have hneG := hM2.ne
              have hlG := hM2.lt
              have hcG := hM2.cell HIN.out
              have hkeep : ob R ≠ some bG := fun e => by
                have := (hM.own.lt bG (by rw [ob_own]; exact e)).2
                omega
              have HKP := hide hkeep
              have BG := hide hbk
              have LB := hide hbk.lt
              have HM3 := hide hM2
              have HSZ := hide hz
              have HNG := hide hneG
              have HLG := hide hlG
              have HCG := hide hcG
              have HW3 := hide hW2
              have HIN2 := HIN
              have HWF := hide HRT.out.wf
              have HGW : Hid (w.heap.size ≤ G) := hide (by rw [HG.out]; exact Nat.le_refl _)
              have hGw : G ≤ wp.heap.size := Nat.le_of_lt hlG
              have hin := HIN.out
              have hkn := HKN.out
              clear hM hz hM2 hneG hlG hcG hkeep hbk hsl hnw hbg hb hW2 BP SP LP0 ST Q2 Q3 Q4 HL2 HL3 HSU HJQ HKM HWR h3 HM1 HW HRT
              go_upto_region 12 with fail
              refine wp_region_T (S := fun z => SameK (fun b => b < wp.heap.size ∧ ob R ≠ some b) wp z) 10 (by kernel_rfl) (fun b _ => rfl) (fun hS => ?_)
              refine wpT_tk 0 (v := .slice (some ⟨G, 0, none⟩) n n) rfl (by kernel_rfl) (by kernel_rfl) (by kernel_rfl) (by kernel_rfl) (yi rfl fun w' hw' => gives_move (.inl rfl) rfl) hS ?_
              go_frame
              refine wpT_tk 1 (v := .int .i64 i) rfl (by kernel_rfl) (by kernel_rfl) (by kernel_rfl) (by kernel_rfl) (yi rfl fun w' hw' => gives_move (.inl rfl) rfl) hS ?_
              go_frame
              refine wpT_tk 2 (v := .slice (some ⟨G, 0, none⟩) n n) rfl (by kernel_rfl) (by kernel_rfl) (by kernel_rfl) (by kernel_rfl) (yi rfl fun w' hw' => gives_move (.inl rfl) rfl) hS ?_
              go_frame
              refine wpT_tk 3 (v := .int .i64 i) rfl (by kernel_rfl) (by kernel_rfl) (by kernel_rfl) (by kernel_rfl) (yi rfl fun w' hw' => gives_move (.inl rfl) rfl) hS ?_
              go_frame
              refine wpT_tk 4 (v := .pointer (some ⟨G, i, none⟩)) rfl (by kernel_rfl) (by kernel_rfl) (by kernel_rfl) (by kernel_rfl) (yi rfl fun w' hw' => gives_idxG rfl Try.underlying68 (fun _ => by kernel_rfl) rfl rfl hin) hS ?_
              go_frame
              refine wpT_tk 5 (v := .slice R k c) rfl (by kernel_rfl) (by kernel_rfl) (by kernel_rfl) (by kernel_rfl) (yi rfl fun w' hw' => gives_load1 rfl (by kernel_rfl) rfl ((hw'.cell (a := ⟨G, i, none⟩) ⟨HLG.out, HNG.out⟩).trans HCG.out)) hS ?_
              go_frame
              refine wpT_tk 6 (v := PV (LP.canon xy).1 U gn gc) rfl (by kernel_rfl) (by kernel_rfl) (by kernel_rfl) (by kernel_rfl) (yi rfl fun w' hw' => gives_loadRow rfl rfl ((hw' bG ⟨LB.out, HKP.out⟩).trans BG.out) Try.underlying36 (by kernel_rfl) (by kernel_rfl)) hS ?_
              go_frame
              have hdr : Below wp.heap.size wp wp.drew := (Below.refl _ _).drew
              have HSK : ∀ w', (∀ b, b < wp.drew.heap.size → w'.heap[b]? = wp.drew.heap[b]?) → SameK (fun b => b < wp.heap.size ∧ ob R ≠ some b) wp w' := fun w' h b hb => h b hb.1
              have HSZ9 : wp.heap.size ≤ (wp.drew.alloc (.cells #[.int .i64 (LP.canon xy).1, .slice U gn gc] 36)).heap.size := by rw [World.size_alloc]; exact Nat.le_succ _
              have hMd := HM3.out.below hdr
              have hzd : SLK (fun b => Fr [some G, ob R] b ∧ b < wp.drew.heap.size) wp.drew U gn gc (LP.canon xy).2 := (HSZ.out.keep ((SameK.below hdr).mono fun b hb2 => hb2.2) hdr.size).mono fun b _ h3 => ⟨h3.1, Nat.lt_of_lt_of_le h3.2 hdr.size⟩
              have hWd := HW3.out.trans (hdr.mono HW3.out.size)
              have hlit : Below wp.drew.heap.size wp.drew (wp.drew.alloc (.cells #[.int .i64 (LP.canon xy).1, .slice U gn gc] 36)) := (Below.refl _ _).alloc (Nat.le_refl _) _
              have hM4 := hMd.below hlit
              have hz4 : SLK (fun b => Fr [some G, ob R] b ∧ b < (wp.drew.alloc (.cells #[.int .i64 (LP.canon xy).1, .slice U gn gc] 36)).heap.size) (wp.drew.alloc (.cells #[.int .i64 (LP.canon xy).1, .slice U gn gc] 36)) U gn gc (LP.canon xy).2 := (hzd.keep ((SameK.below hlit).mono fun b hb2 => hb2.2) hlit.size).mono fun b _ h3 => ⟨h3.1, Nat.lt_of_lt_of_le h3.2 hlit.size⟩
              have hb4 := hWd.trans (hlit.mono hWd.size)
              have blit := Blk.new wp.drew 36 #[.int .i64 (LP.canon xy).1, .slice U gn gc]
              refine wpT_1 7 rfl (by kernel_rfl) ?_
              refine wp_buildSlice_at (cells := #[.int .i64 (LP.canon xy).1, .slice U gn gc]) (l := [(0, .tmp 45)]) i1 (.agg #[.int .i64 0, .slice none 0 0]) 2 [(0, PV (LP.canon xy).1 U gn gc)] rfl Try.underlying89 HI1.out HY0.out HY1.out (by decide) (by decide) rfl (by simp [Instr.fill, Value.cells, show Array.range (1 * 2) = #[0, 1] from rfl]) ?_
              refine ⟨fun _ => HSK _ hlit.block, ?_⟩
              go_frame
              refine wpT_1 8 rfl (by kernel_rfl) ?_
              refine wp_append_G (.tmp 44) (.tmp 46) 89 rfl G 36 i1 (.agg #[.int .i64 0, .slice none 0 0]) 2 32 Try.underlying89 HI1.out HY0.out HY1.out HY2.out rfl (by omega) (by omega) R k c vs rfl hM4.own ⟨wp.drew.heap.size, 0, none⟩ 1 1 [.int .i64 (LP.canon xy).1, .slice U gn gc] rfl rfl (cells_pair blit) (by simp [Value.oneCell']) (by omega) (Nat.le_of_lt hM4.lt) ?_
              intro R9 c9 w9 happ
              have hM9 := hM4.put HXY.out hin hz4 HWF.out happ
              have hcell9 : w9.cell? ⟨G, i, none⟩ = some (.slice R k c) := by
                have h1 := hM4.cell hin
                rw [← h1]
                refine World.cell?_of_block (a := ⟨G, i, none⟩) (happ.grown.block G hM4.lt (fun e => hM4.ne ?_))
                rw [ownBlock_len R (k + 1) k c c, ob_own] at e
                exact e.symm
              have hgrow : Below w.heap.size w w9 := hb4.grown happ.grown hb4.size (fun b hb => by
                rw [ownBlock_len R (k + 1) k c c] at hb
                exact Nat.le_trans HGW.out (hM4.own.lt b hb).1)
              have hfr : w9.frozen? ⟨G, i, none⟩ = false := by
                obtain ⟨cs, hcs⟩ := hM4.blk
                have h2 : Blk w9 G 89 cs := (happ.grown.block G hM4.lt (fun e => hM4.ne (by rw [ownBlock_len R (k + 1) k c c, ob_own] at e; exact e.symm))).trans hcs
                exact h2.frozen i
              have hS9 : SameK (fun b => b < wp.heap.size ∧ ob R ≠ some b) wp w9 := fun b hb => by
                have h1 := HSK _ hlit.block b hb
                rw [← h1]
                refine happ.grown.block b (Nat.lt_of_lt_of_le hb.1 HSZ9) (fun e => hb.2 ?_)
                rw [ownBlock_len R (k + 1) k c c, ob_own] at e
                exact e.symm
              refine ⟨fun _ => hS9, ?_⟩
              go_frame
              refine wpT_tk 9 (v := .pointer (some ⟨G, i, none⟩)) rfl (by kernel_rfl) (by kernel_rfl) (by kernel_rfl) (by kernel_rfl) (yi rfl fun w' hw' => gives_idxG rfl Try.underlying68 (fun _ => by kernel_rfl) rfl rfl hin) hS9 ?_
              go_frame
              refine wpT_1 10 rfl (by kernel_rfl) ?_
              refine wp_storeS rfl (by kernel_rfl) (by kernel_rfl) rfl rfl hcell9 hfr ?_
              refine ⟨fun h => absurd rfl h, ?_⟩
              go_frame
              refine wpT_done (by kernel_rfl) (noPanic_mk ?_) _
              have HM5 : Hid (∃ (R : Option Addr) (c : Nat) (vs : List Value), GroM (w9.setCell ⟨G, i, none⟩ (.slice R9 (k + 1) c9)) G G n i R (k + 1) c vs D) := hide ⟨_, _, _, hM9⟩
              have HW5 : Hid (Below w.heap.size w (w9.setCell ⟨G, i, none⟩ (.slice R9 (k + 1) c9))) := hide (hgrow.setCell (p := ⟨G, i, none⟩) HGW.out _)
              clear hMd hzd hWd hS hdr HSK HSZ9 hlit hM4 hz4 hb4 blit hM9 hcell9 hgrow hfr hS9 happ HM3 HSZ BG LB HCG HNG HLG HKP HWF HGW HW3
              go_wp2_with fail
              go_roundw
              case rel => exact ⟨k + 1, by go_num, by omega, HM5, HW5⟩
              case measure => simp [intOf]; omega
        · have hke : k = n := by omega
          subst hke
          obtain ⟨R, c, vs, hM⟩ := HM.out
          have HN := hide (hM.next HIN.out)
          have hin := HIN.out
          clear HM hM
          go_wp2_with fail
          go_roundw
          case rel => exact ⟨i + 1, by go_num, by omega, HN, HW⟩
          case measure => simp [intOf]; omega
    · have hie : i = n := by omega
      subst hie
      have HS := hide (HM.out.spp (by omega))
      clear HM
      go_wp2_with fail
      go_ret
      exact ⟨_, _, rfl, HS.out, HW.out⟩
end Go.Proofs.Ytndgffiihbdppaa
/- Halves of a slice of integers. -/
namespace Go.Proofs.Ytndgffiihbdppaa
set_option linter.unusedVariables false
set_option linter.unusedSimpArgs false
open Go.RowKit

theorem SL.half_h {w : World} {A : Option Addr} {n c h : Nat} {xs : List Int} (ha : SL w A n c xs) (h2 : h ≤ n) : SL w (cutA A 0 c) h c (xs.take h) := by
  have := ha.il.cut (l := 0) (h := h) (by omega) h2 ha.cap
  rw [Nat.sub_zero, List.drop_zero] at this
  refine ⟨this, fun e => ?_, by have := ha.cap; omega⟩
  have e2 : A = none := by
    unfold cutA at e
    split at e
    · exact e
    · cases A with
      | none => rfl
      | some a => simp at e
  have := ha.nil e2
  omega
theorem SL.half_l {w : World} {A : Option Addr} {n c h : Nat} {xs : List Int} (ha : SL w A n c xs) (h2 : h ≤ n) : SL w (cutA A h c) (n - h) (c - h) (xs.drop h) := by
  have h1 := ha.il.cut (l := h) (h := n) h2 (Nat.le_refl _) ha.cap
  rw [List.take_of_length_le (by rw [List.length_drop, ha.il.len]; exact Nat.le_refl _)] at h1
  refine ⟨h1, fun e => ?_, by have := ha.cap; omega⟩
  have e2 : A = none := by
    unfold cutA at e
    split at e
    · exact e
    · cases A with
      | none => rfl
      | some a => simp at e
  have := ha.nil e2
  omega
end Go.Proofs.Ytndgffiihbdppaa
