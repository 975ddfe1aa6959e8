/- Package temperleylieb: completions, Elements. -/
import Derived.Test.YthhcjnmlpojjeaaTp6
import Derived.Test.YthhcjnmlpojjeaaTlPc
import Derived.Test.YthhcjnmlpojjeaaTlE3
import Derived.Test.YthhcjnmlpojjeaaTlM
namespace Go.Proofs.Ythhcjnmlpojjeaa
set_option linter.unusedVariables false
set_option linter.unusedSimpArgs false
open Go.RowKit

theorem stP_spec {N : Nat} {D : List Nat} (hl : D.length = N) (h16 : ∀ x ∈ D, x < 16) : ∀ (ps : List Nat) (st : List Nat), (∀ p ∈ ps, p < N ∧ p < 15) → (∀ p ∈ st, p < 15) →
    (Tl.stP (Tl.enc D 1) ps (encS st) = true ↔ ps.foldl (Tl.stG (toI D)) (zs st) = [])
  | [], st, _, _ => by
    show Nat.beq (encS st) 0 = true ↔ zs st = []
    rw [Nat.beq_eq, encS_zero]
    unfold zs
    rw [List.map_eq_nil_iff]
  | p :: ps, st, hp, hst => by
    obtain ⟨hpN, hp15⟩ := hp p (by simp)
    have hdig := Tl.enc_dig h16 p (by rw [hl]; exact hpN)
    have hget := toI_getD (D := D) (i := p) (by rw [hl]; exact hpN)
    rw [Tl.stP, Tl.forceN_eq, Tl.forceN_eq, hdig, List.foldl_cons]
    by_cases hy : D.getD p 0 = 0
    · have hb : Nat.beq (D.getD p 0) 0 = true := by rw [hy]; rfl
      have hG : Tl.stG (toI D) (zs st) p = zs st := by unfold Tl.stG; rw [if_pos (by rw [hget, hy]; rfl)]
      rw [hb, hG]
      exact stP_spec hl h16 ps st (fun q hq => hp q (by simp [hq])) hst
    have hb0 : Nat.beq (D.getD p 0) 0 = false := Bool.eq_false_iff.2 fun h => hy (Nat.eq_of_beq_eq_true h)
    have hG : Tl.stG (toI D) (zs st) p = Tl.stF (toI D) (zs st) p := by unfold Tl.stG; rw [if_neg (by rw [hget]; omega)]
    rw [hb0, hG]
    show (cond (Nat.beq (encS st % 16) (D.getD p 0)) (Tl.stP (Tl.enc D 1) ps (encS st / 16)) (Tl.stP (Tl.enc D 1) ps (encS st * 16 + (p + 1)))) = true ↔ _
    have push : Tl.stP (Tl.enc D 1) ps (encS st * 16 + (p + 1)) = true ↔ ps.foldl (Tl.stG (toI D)) (zs st ++ [(p : Int)]) = [] := by
      have := stP_spec hl h16 ps (st ++ [p]) (fun q hq => hp q (by simp [hq])) (fun q hq => (List.mem_append.1 hq).elim (hst q) (fun h => by rw [List.mem_singleton.1 h]; exact hp15))
      rw [encS_snoc] at this
      have e : zs (st ++ [p]) = zs st ++ [(p : Int)] := by simp [zs]
      rw [e] at this
      exact this
    rcases snocN st with rfl | ⟨st', q, rfl⟩
    · have hb : Nat.beq (encS [] % 16) (D.getD p 0) = false := Bool.eq_false_iff.2 fun h => by
        have h5 := Nat.eq_of_beq_eq_true h
        rw [show encS [] % 16 = 0 from rfl] at h5
        omega
      rw [hb]
      have hF : Tl.stF (toI D) (zs []) p = zs [] ++ [(p : Int)] := by unfold Tl.stF; rw [if_neg (fun h => absurd h.1 (by simp [zs]))]
      rw [hF]
      exact push
    · have hq15 := hst q (by simp)
      have hm : encS (st' ++ [q]) % 16 = q + 1 := by rw [encS_snoc]; omega
      have hd : encS (st' ++ [q]) / 16 = encS st' := by rw [encS_snoc]; omega
      have hlen : (zs (st' ++ [q])).length = st'.length + 1 := by rw [zs_length]; simp
      have hlast : (zs (st' ++ [q])).getD ((zs (st' ++ [q])).length - 1) 0 = (q : Int) := by
        rw [zs_getD, hlen, Nat.add_sub_cancel]
        simp [List.getD]
      rw [hm, hd]
      by_cases e : q + 1 = D.getD p 0
      · have hb : Nat.beq (q + 1) (D.getD p 0) = true := by rw [e]; exact Nat.beq_refl _
        rw [hb]
        have hF : Tl.stF (toI D) (zs (st' ++ [q])) p = zs st' := by
          unfold Tl.stF
          rw [if_pos ⟨by rw [hlen]; omega, by rw [hlast, hget]; omega⟩, hlen, Nat.add_sub_cancel, zs_take]
          simp
        rw [hF]
        exact stP_spec hl h16 ps st' (fun q hq => hp q (by simp [hq])) (fun q hq => hst q (by simp [hq]))
      · have hb : Nat.beq (q + 1) (D.getD p 0) = false := Bool.eq_false_iff.2 fun h => e (Nat.eq_of_beq_eq_true h)
        rw [hb]
        have hF : Tl.stF (toI D) (zs (st' ++ [q])) p = zs (st' ++ [q]) ++ [(p : Int)] := by
          unfold Tl.stF
          rw [if_neg (fun h => e (by have := h.2; rw [hlast, hget] at this; omega))]
        rw [hF]
        exact push
theorem okP_spec {n : Nat} (hn : n ≤ 6) {D : List Nat} (hl : D.length = 2 * n) (hb : ∀ x ∈ D, x < 16) : Tl.okP (Tl.bnd n) D = Tl.plG n (toI D) := by
  have hs := stP_spec hl hb (Tl.bnd n) [] (fun p hp => by
    unfold Tl.bnd at hp
    obtain ⟨i, hi, rfl⟩ := List.mem_map.1 hp
    have := posF_lt (List.mem_range.1 hi)
    exact ⟨this, by omega⟩) (fun p hp => by cases hp)
  unfold Tl.okP
  rw [Tl.forceN_eq]
  have e : (Tl.bnd n).foldl (Tl.stG (toI D)) (zs []) = Tl.stsG n (toI D) (2 * n) := by
    unfold Tl.bnd Tl.stsG
    rw [List.foldl_map]
    rfl
  rw [e] at hs
  unfold Tl.plG
  rw [Bool.eq_iff_iff, decide_eq_true_eq]
  exact hs
/-- The completions by way of the k-th point. -/
def cmpQ (n f : Nat) (D : List Nat) (i k : Nat) : List (List Nat) := if Tl.plG n (toI ((D.set i (k + 1)).set k (i + 1))) = true then Tl.cmpF (Tl.bnd n) f ((D.set i (k + 1)).set k (i + 1)) else []
theorem parts_congr (i : Nat) {q q' : Nat → List (List Nat)} : ∀ (l : List Nat) (k : Nat), (∀ j, k ≤ j → j < k + l.length → q j = q' j) → Tl.partsL i q l k = Tl.partsL i q' l k
  | [], _, _ => rfl
  | c :: l, k, h => by
    rw [Tl.partsL, Tl.partsL, parts_congr i l (k + 1) (fun j h1 h2 => h j (by omega) (by rw [List.length_cons]; omega)), h k (Nat.le_refl _) (by rw [List.length_cons]; omega)]
theorem cmp_some {n f i : Nat} (hn : n ≤ 6) {D : List Nat} (hl : D.length = 2 * n) (hb : ∀ x ∈ D, x < 16) (hi : i < 2 * n) (h : Tl.openN D 0 = some i) : Tl.cmpF (Tl.bnd n) (f + 1) D = ptT i (cmpQ n f D i) D (2 * n) := by
  rw [← hl, ptT_all, Tl.cmpF, h]
  refine parts_congr i D 0 fun k _ hk => ?_
  rw [Nat.zero_add, hl] at hk
  show Tl.forceL (Tl.setN (Tl.setN D i (k + 1)) k (i + 1)) (fun d' => cond (Tl.okP (Tl.bnd n) d') (Tl.cmpF (Tl.bnd n) f d') []) = cmpQ n f D i k
  rw [Tl.forceL_eq, setN_eq, setN_eq]
  unfold cmpQ
  rw [okP_spec hn (by simpa using hl) (fun x hx => by
    rcases List.mem_or_eq_of_mem_set hx with h1 | h1
    · rcases List.mem_or_eq_of_mem_set h1 with h2 | h2
      · exact hb x h2
      · omega
    · omega)]
  cases Tl.plG n (toI ((D.set i (k + 1)).set k (i + 1))) <;> simp
theorem cmp_none {ps : List Nat} {f : Nat} {D : List Nat} (h : Tl.openN D 0 = none) : Tl.cmpF ps (f + 1) D = [D] := by rw [Tl.cmpF, h]

/-! ### slices of rows -/
theorem RowsI.append {w : World} {base : Nat} {vs us : List Value} {xss yss : List (List Int)} (h : RowsI w base vs xss) (k : RowsI w base us yss) : RowsI w base (vs ++ us) (xss ++ yss) := by
  refine ⟨by simp [h.len, k.len], fun i hi => ?_⟩
  by_cases hlt : i < vs.length
  · obtain ⟨A, n, c, e, ho⟩ := h.row i hlt
    refine ⟨A, n, c, by rw [List.getElem?_append_left hlt]; exact e, ?_⟩
    have : (xss ++ yss).getD i [] = xss.getD i [] := by
      simp only [List.getD]
      rw [List.getElem?_append_left (by rw [← h.len]; exact hlt)]
    rw [this]
    exact ho
  · rw [List.length_append] at hi
    obtain ⟨A, n, c, e, ho⟩ := k.row (i - vs.length) (by omega)
    refine ⟨A, n, c, by rw [List.getElem?_append_right (by omega)]; exact e, ?_⟩
    have : (xss ++ yss).getD i [] = yss.getD (i - vs.length) [] := by
      simp only [List.getD]
      rw [List.getElem?_append_right (by rw [← h.len]; omega), h.len]
    rw [this]
    exact ho
theorem RowsI.mono {w : World} {base b' : Nat} {vs : List Value} {xss : List (List Int)} (h : RowsI w base vs xss) (hb : b' ≤ base) : RowsI w b' vs xss := ⟨h.len, fun i hi => by
  obtain ⟨A, n, c, e, ho⟩ := h.row i hi
  exact ⟨A, n, c, e, ho.mono hb⟩⟩
theorem RowsI.chg {w w' : World} {base g : Nat} {vs : List Value} {xss : List (List Int)} (h : RowsI w base vs xss) (hg : w.grownBy w' (some g)) (hlt : g < base) : RowsI w' base vs xss := ⟨h.len, fun i hi => by
  obtain ⟨A, n, c, e, ho⟩ := h.row i hi
  refine ⟨A, n, c, e, ho.kept hg ?_⟩
  cases hA : (Value.slice A n c).ownBlock with
  | none => exact .inl rfl
  | some k =>
    right
    have := (ho.lt k hA).1
    intro e2
    have := Option.some.inj e2
    omega⟩
theorem OwnV.chg {w w' : World} {base g n c : Nat} {A : Option Addr} {vs : List Value} (h : OwnV w base A n c vs) (hg : w.grownBy w' (some g)) (hlt : g < base) : OwnV w' base A n c vs := by
  refine ⟨h.own.kept hg ?_, h.small⟩
  cases hA : (Value.slice A n c).ownBlock with
  | none => exact .inl rfl
  | some k =>
    right
    have := (h.lt k hA).1
    intro e2
    have := Option.some.inj e2
    omega
theorem run_append_none {P : Program} (w : World) (t ty e : TypeId) (i : TypeInfo) (ht : P.underlying t = some (.slice e)) (hi : P.info? e = some i) (A : Option Addr) (n c : Nat) (hc : n ≤ c) : (Builtin.append_ #[t, t] ty #[.slice A n c, .slice none 0 0]).run P w = .ok (.slice A n c) w := by
  cases A <;> simp [Builtin.append_, run_underlying ht, sizeOf, typeInfo, hi, Builtin.lenOf, Builtin.firstCells, loadCells, loadCellsFrom, hc, storeCells]
theorem wpList_append_rows {P : Program} (w : World) {ops : Array Oper} {rest : List Oper} {o : Oper} {a : Act} {Q : Exit → Act → World → Prop} (hgd : o.guard = none) (s x : Operand) (t : TypeId)
    (ho : o.op = .call { callee := .builtin .append, args := #[s, x], argTypes := #[t, t] })
    (base b2 : Nat) (i : TypeInfo) (ht : P.underlying t = some (.slice 22)) (hi : P.info? 22 = some i) (hz : i.zero = some (.slice none 0 0)) (hsize : i.size = 1) (hby : i.bytes = 24)
    (A : Option Addr) (n c : Nat) (vs : List Value) (hs : a.eval s = .slice A n c) (hown : OwnV w base A n c vs) (B : Option Addr) (m d : Nat) (us : List Value) (hx : a.eval x = .slice B m d) (hu : OwnV w b2 B m d us) (h1 : ∀ u, u ∈ us → u.oneCell' = true)
    (hsm : n + m ≤ 1000000) (hbase : base ≤ w.heap.size)
    (h : ∀ A' c' w', AppendedV w base A (n + m) c (vs ++ us) A' c' w' → wpList P ops Q rest (a.put o.dst (.slice A' (n + m) c')) w') : wpList P ops Q (o :: rest) a w :=
  wpList_plain hgd fun K hK => by
    have hul := hu.len
    rcases hu.own.2 with ⟨hv, h0⟩ | ⟨g, cap, cur, hv, hbg, hh, _⟩
    · simp only [Value.slice.injEq] at hv
      obtain ⟨rfl, rfl, rfl⟩ := hv
      have hun : us = [] := List.eq_nil_of_length_eq_zero hul
      subst hun
      have hnc : n ≤ c := by
        rcases hown.own.2 with ⟨hv, h0⟩ | ⟨g, cap, cur, hv, _, _, hnc, _⟩
        · omega
        · simp only [Value.slice.injEq, true_and] at hv; omega
      have hrun := run_append_none (P := P) w t o.type 22 i ht hi A n c hnc
      unfold Oper.wp execOp
      simp only [ho, resolve, invoke, builtin, Sem.run_bind, Sem.run_pure, Result.andThen_ok, List.map_toArray, List.map_cons, List.map_nil, hs, hx, hrun]
      exact hK _ _ (h A c w ⟨by simpa using hown, World.grownBy.refl _ _, .inl rfl⟩)
    · have hB : B = some ⟨g, 0, none⟩ := by injection hv
      subst hB
      refine wp_append_vals w s x t ho base i ht hi hz hsize hby A n c vs hs hown ⟨g, 0, none⟩ d us m hul hx (fun j u hj => ?_) h1 hsm hbase (fun A' c' w' hap => hK _ _ (h A' c' w' hap))
      have hjm : j < m := by rw [← hul]; exact (List.getElem?_eq_some_iff.1 hj).1
      obtain ⟨g2, e, hc⟩ := hu.cellAt hjm
      have : g2 = g := by have := Option.some.inj e; simp only [Addr.mk.injEq] at this; omega
      subst this
      rw [show (⟨g2, 0, none⟩ : Addr).add j = ⟨g2, j, none⟩ by unfold Addr.add; split <;> simp_all, hc]
      exact hj
theorem OwnV.one {w : World} {base : Nat} (v : Value) (hb : base ≤ w.heap.size) : OwnV (w.alloc (.cells #[v] 22)) base (some ⟨w.heap.size, 0, none⟩) 1 1 [v] := by
  have := World.ownsRow_lit (base := base) (e := 22) (size := 1) w #[v] 1 hb (by unfold maxLen; omega) (by simp)
  exact ⟨by simpa using this, by omega⟩

set_option maxRecDepth 100000 in
set_option maxHeartbeats 8000000 in
theorem completions_any (n N c g : Nat) (hN : 2 * n = N) (h1 : 1 ≤ n) (h6 : n ≤ 6) :
    ∀ (f : Nat) (D : List Nat) (w : World), D.count 0 < 2 * f → (∀ x ∈ D, x < 16) → (Tl.cmpF (Tl.bnd n) f D).length < 1000 → OwnI w 0 (some ⟨g, 0, none⟩) N c (toI D) →
      Calls Try.prog 46 #[.int .i64 n, .slice (some ⟨g, 0, none⟩) N c] w fun e w' => ∃ E en ec vs, e = .returned (.slice E en ec) ∧ OwnV w' w.heap.size E en ec vs ∧ RowsI w' w.heap.size vs ((Tl.cmpF (Tl.bnd n) f D).map toI) ∧ OwnI w' 0 (some ⟨g, 0, none⟩) N c (toI D) ∧ w.grownBy w' (some g) := by
  intro f
  induction f with
  | zero => intro D w h; omega
  | succ f ih =>
    intro D w hct hb16 hlen hO
    have hlD : D.length = N := by have := hO.len; rwa [toI_length] at this
    have hgl : g < w.heap.size := by
      obtain ⟨g', e, _, h2⟩ := hO.form (by omega)
      simp only [Option.some.injEq, Addr.mk.injEq] at e
      omega
    cases ho : Tl.openN D 0 with
    | none =>
      rw [cmp_none ho]
      have hz := openN_none ho
      have HI := hide (indexI_none (some ⟨g, 0, none⟩) N c (toI D) (-1) w hO.il (fun j hj => by rw [toI_getD (by omega)]; have := hz j (by omega); omega))
      have HCL := hide (clone_any (some ⟨g, 0, none⟩) N c (toI D) w hO.il (fun h => by cases h))
      have HO := hide hO
      clear ih hct hb16 hlen hO ho hz
      go_enter Try.func46, Try.ntmps46
      go_wp2_with fail
      refine HI.out.mono ?_
      rintro e w1 ⟨rfl, hww⟩
      subst hww
      clear HI
      go_wp2_with fail
      refine HCL.out.mono ?_
      rintro e w1 ⟨A, m, d, rfl, ho1, hb1⟩
      have hb2 : Below w.heap.size w (w1.alloc (.cells #[.slice A m d] 22)) := hb1.alloc hb1.size _
      have HV := hide (OwnV.one (w := w1) (base := w.heap.size) (.slice A m d) hb1.size)
      have HR : Hid (RowsI (w1.alloc (.cells #[.slice A m d] 22)) w.heap.size [.slice A m d] [toI D]) := hide ((RowsI.nil_ _ _).snoc (vs := []) (xss := []) (ho1.alloc _))
      have HO2 := hide (HO.out.below hb2)
      have HG := hide (gb_below (g := g) hb2)
      clear hb2 ho1 hb1 HCL HO
      go_wp2_with fail
      go_ret
      exact ⟨_, 1, 1, _, rfl, HV.out, HR.out, HO2.out, HG.out⟩
    | some i =>
      obtain ⟨_, hi, hi0, hlow⟩ := openN_some ho
      rw [Nat.sub_zero] at hi hi0 hlow
      have hF := cmp_some (f := f) h6 (by omega) hb16 (by omega) ho
      rw [hN] at hF
      rw [hF] at hlen ⊢
      rw [hlD] at hi
      have HIH := hide ih
      have HLD := hide hlD
      have HI0 := hide hi0
      have HLEN := hide hlen
      have HCT := hide hct
      have HO := hide hO
      have HB16 := hide hb16
      have HI := hide (indexI_some (some ⟨g, 0, none⟩) N c i (toI D) (-1) w hO.il hi (by rw [toI_getD (by omega)]; omega) (fun j hj => by rw [toI_getD (by omega)]; have := hlow j hj; omega))
      have hwi : IntKind.i64.wrap ((i : Int) + 1) = ((i + 1 : Nat) : Int) := by rw [IntKind.wrap_i64]; omega
      have hN12 : N ≤ 12 := by omega
      have HN := hide hN
      obtain ⟨i0, hi0', hz0, hz1, hz2⟩ := info_parts rows_info
      have HJ0 := hide hi0'
      have HZ0 := hide hz0
      have HZ1 := hide hz1
      have HZ2 := hide hz2
      have hil0 : decide ((i : Int) < 0) = false := decide_eq_false (by omega)
      clear ih hlD hi0 hlen hct hO hF ho hlow hN hb16 hi0' hz0 hz1 hz2
      go_enter Try.func46, Try.ntmps46
      go_wp2_with fail
      refine HI.out.mono ?_
      rintro e w1 ⟨rfl, hww⟩
      subst hww
      clear HI
      go_wp2_with fail
      go_loopw [6, 7] (fun av kv wr => ∃ (k en ec : Nat) (E : Option Addr) (vs : List Value), av = .slice E en ec ∧ kv = .int .i64 k ∧ i + 1 ≤ k ∧ k ≤ N ∧ Hid (OwnV wr w.heap.size E en ec vs) ∧ Hid (RowsI wr w.heap.size vs ((ptT i (cmpQ n f D i) D k).map toI)) ∧ Hid (OwnI wr 0 (some ⟨g, 0, none⟩) N c (toI D)) ∧ Hid (w.grownBy wr (some g))) (fun _ kv _ => N - (intOf kv).toNat)
      case atStart => exact ⟨i + 1, 0, 0, none, [], rfl, by go_num, Nat.le_refl _, by omega, hide (OwnV.nil_ _ _), hide (by rw [ptT_low]; exact RowsI.nil_ _ _), HO, hide (World.grownBy.refl _ _)⟩
      case round =>
        clear HO
        obtain ⟨k, en, ec, E, vs, rfl, rfl, hik, hkN, HV, HR, HO, HG⟩ := hrel
        by_cases hlt : k < N
        · have hcl := HO.out.cell hlt
          have hkl : k < D.length := by rw [HLD.out]; exact hlt
          have hil : i < D.length := by rw [HLD.out]; exact hi
          rw [toI_getD hkl] at hcl
          have hps := ptT_succ (q := cmpQ n f D i) hkl (show i < k by omega)
          have hkw : IntKind.i64.wrap ((k : Int) + 1) = ((k + 1 : Nat) : Int) := by rw [IntKind.wrap_i64]; omega
          by_cases hk0 : D.getD k 0 = 0
          · rw [hk0] at hcl
            rw [if_pos hk0] at hps
            rw [show (((0 : Nat) : Int) - 1) = -1 from rfl] at hcl
            have hcount := zeros_set hil hkl (show i ≠ k by omega) HI0.out hk0 (show k + 1 ≠ 0 by omega) (show i + 1 ≠ 0 by omega)
            have HC2 : Hid (((D.set i (k + 1)).set k (i + 1)).count 0 < 2 * f) := hide (by have := HCT.out; omega)
            have HUN := hide (unset2 (a := k + 1) (b := i + 1) hil hkl HI0.out hk0)
            have hpre := ptT_pre i (cmpQ n f D i) D (k + 1)
            rw [HLD.out, hps] at hpre
            have HQL : Hid ((ptT i (cmpQ n f D i) D k).length + (cmpQ n f D i k).length < 1000) := hide (by
              obtain ⟨r, hr⟩ := hpre
              have h1 := HLEN.out
              rw [hr, List.length_append, List.length_append] at h1
              omega)
            have HB2 : Hid (∀ x ∈ (D.set i (k + 1)).set k (i + 1), x < 16) := hide (fun x hx => by
              rcases List.mem_or_eq_of_mem_set hx with h1 | h1
              · rcases List.mem_or_eq_of_mem_set h1 with h2 | h2
                · exact HB16.out x h2
                · omega
              · omega)
            have HPS := hide hps
            have HQ : Hid (cmpQ n f D i k = if Tl.plG n (toI ((D.set i (k + 1)).set k (i + 1))) = true then Tl.cmpF (Tl.bnd n) f ((D.set i (k + 1)).set k (i + 1)) else []) := hide rfl
            obtain ⟨D2, hD2⟩ : ∃ D2, (D.set i (k + 1)).set k (i + 1) = D2 := ⟨_, rfl⟩
            have hs2 := (HO.out.set_ i (k : Int)).set_ k (i : Int)
            have hTO : ((toI D).set i (k : Int)).set k (i : Int) = toI D2 := by
              rw [← hD2, toI_set, toI_set]
              rw [show ((k + 1 : Nat) : Int) - 1 = (k : Int) by omega, show ((i + 1 : Nat) : Int) - 1 = (i : Int) by omega]
            rw [hTO] at hs2
            rw [hD2] at HC2 HUN HB2 HQ
            have HS2 := hide hs2
            have HCON := hide (connect_any g N c 0 i k (toI D) wr HO.out hi hlt (by omega))
            have HG2 := hide (gb_trans HG.out (gb_trans (gb_set (g := g) (i := i) (v := .int .i64 (k : Int))) (gb_set (g := g) (i := k) (v := .int .i64 (i : Int)))))
            have HV2 := hide (HV.out.chg (gb_trans (gb_set (g := g) (i := i) (v := .int .i64 (k : Int))) (gb_set (g := g) (i := k) (v := .int .i64 (i : Int)))) hgl)
            have HR2 := hide (HR.out.chg (gb_trans (gb_set (g := g) (i := i) (v := .int .i64 (k : Int))) (gb_set (g := g) (i := k) (v := .int .i64 (i : Int)))) hgl)
            clear hps hpre hcount hk0 hs2 hTO hD2 hkl hil HO HG HV HR
            go_wp2_with fail
            refine HCON.out.mono ?_
            rintro e w2 ⟨rfl, hw2⟩
            rw [← hw2] at HS2 HG2 HV2 HR2
            clear hw2 HCON hcl
            have HPL := hide (isPlanar_any n (some ⟨g, 0, none⟩) N c (toI D2) w2 HS2.out.il h1 h6 HN.out.symm)
            obtain ⟨pl, hpl⟩ : ∃ b, Tl.plG n (toI D2) = b := ⟨_, rfl⟩
            rw [hpl] at HPL HQ
            clear hpl
            go_wp2_with fail
            refine HPL.out.mono ?_
            rintro e w3 ⟨rfl, hb3⟩
            have HS3 := hide (HS2.out.below hb3)
            have HG3 := hide (gb_trans HG2.out (gb_below hb3))
            have HV3 := hide (HV2.out.chg (gb_below hb3) hgl)
            have HR3 := hide (HR2.out.chg (gb_below hb3) hgl)
            clear hb3 HPL HS2 HG2 HV2 HR2
            cases pl with
            | false =>
              have HPE : Hid (ptT i (cmpQ n f D i) D (k + 1) = ptT i (cmpQ n f D i) D k) := hide (by rw [HPS.out, HQ.out, if_neg (by simp), List.append_nil])
              have hc1 := HS3.out.cell hi
              have hf1 := HS3.out.frozen i
              have hs4 := HS3.out.set_ i (-1)
              have hc2 := hs4.cell hlt
              have hf2 := hs4.frozen k
              have hs5 := hs4.set_ k (-1)
              have hT5 : ((toI D2).set i (-1)).set k (-1) = toI D := by
                rw [← HUN.out, toI_set, toI_set]; rfl
              rw [hT5] at hs5
              have HS5 := hide hs5
              have HG5 := hide (gb_trans HG3.out (gb_trans (gb_set (g := g) (i := i) (v := .int .i64 (-1))) (gb_set (g := g) (i := k) (v := .int .i64 (-1)))))
              have HV5 := hide (HV3.out.chg (gb_trans (gb_set (g := g) (i := i) (v := .int .i64 (-1))) (gb_set (g := g) (i := k) (v := .int .i64 (-1)))) hgl)
              have HR5 := hide (HR3.out.chg (gb_trans (gb_set (g := g) (i := i) (v := .int .i64 (-1))) (gb_set (g := g) (i := k) (v := .int .i64 (-1)))) hgl)
              rw [← HPE.out] at HR5
              generalize (toI D2).getD i 0 = y1 at *
              generalize ((toI D2).set i (-1)).getD k 0 = y2 at *
              clear hs4 hs5 hT5 HS3 HG3 HV3 HR3 HPE HPS HQ
              go_wp2_with fail
              go_roundw
              case rel => exact ⟨k + 1, en, ec, E, vs, rfl, by go_num, by omega, by omega, HV5, HR5, HS5, HG5⟩
              case measure => simp [intOf]; omega
            | true =>
              have HQ2 : Hid (cmpQ n f D i k = Tl.cmpF (Tl.bnd n) f D2) := hide (by rw [HQ.out, if_pos rfl])
              have HRC := hide (HIH.out D2 w3 HC2.out HB2.out (by have h1 := HQL.out; rw [HQ2.out] at h1; omega) HS3.out)
              clear HS3 HQ
              go_wp2_with fail
              refine HRC.out.mono ?_
              rintro e w4 ⟨E2, m2, c2, us, rfl, hv4, hr4, ho4, hg4⟩
              have hg3s := HG3.out.size
              have HS4 := hide ho4
              have HG4 := hide (gb_trans HG3.out hg4)
              have HV4 := hide (HV3.out.chg hg4 hgl)
              have HR4 := hide (HR3.out.chg hg4 hgl)
              have HU4 := hide hv4
              have HUR := hide (hr4.mono hg3s)
              have hen : en < 1000 := by have h1 := HV4.out.len; have h2 := HR4.out.len; rw [List.length_map] at h2; have h3 := HQL.out; omega
              have hm2 : m2 < 1000 := by have h1 := hv4.len; have h2 := hr4.len; rw [List.length_map] at h2; have h3 := HQL.out; rw [HQ2.out] at h3; omega
              have H1C : Hid (∀ u, u ∈ us → u.oneCell' = true) := hide (fun u hu => by
                obtain ⟨j, hj, rfl⟩ := List.mem_iff_getElem.1 hu
                obtain ⟨A, n', c', e, _⟩ := hr4.row j hj
                rw [List.getElem?_eq_getElem hj] at e
                rw [Option.some.inj e]; rfl)
              have hg4s := HG4.out.size
              clear ho4 hg4 hv4 hr4 HG3 HV3 HR3 HRC
              have HKE : Hid (∀ (A8 : Option Addr) (c8 : Nat) (w8 : World), AppendedV w4 w.heap.size E (en + m2) ec (vs ++ us) A8 c8 w8 → KeepT 3 w4 w8) := hide (fun A8 c8 w8 hap => KeepT.grown hap.grown (fun kk hk => HV4.out.block kk (by rw [ownBlock_len E en (en + m2) ec ec]; exact hk)))
              have HGE : Hid (∀ (A8 : Option Addr) (c8 : Nat) (w8 : World), AppendedV w4 w.heap.size E (en + m2) ec (vs ++ us) A8 c8 w8 → w.grownBy w8 (some g)) := hide (fun A8 c8 w8 hap => by
                have h := HG4.out
                have k := hap.grown
                refine ⟨k.os.trans h.os, k.tape.trans h.tape, k.output.trans h.output, Nat.le_trans h.size k.size, fun b hb hne => (k.block b (Nat.lt_of_lt_of_le hb h.size) (fun e => ?_)).trans (h.block b hb hne)⟩
                have := (HV4.out.lt b (by rw [ownBlock_len E en (en + m2) ec ec]; exact e.symm)).1
                omega)
              go_wp2_with (at_builtin; refine wpList_append_rows _ rfl (.tmp 35) (.tmp 38) 39 rfl w.heap.size w3.heap.size i0 Try.underlying39 HJ0.out HZ0.out HZ1.out HZ2.out E en ec vs rfl HV4.out E2 m2 c2 us rfl HU4.out H1C.out (by omega) hg4s ?_; intro A8 c8 w8 hap; have HAP := hide hap; have hk8 := HKE.out A8 c8 w8 hap; have HS8 := hide (hk8.ownI HS4.out); have hc1 := HS8.out.cell hi; have hf1 := HS8.out.frozen i; have hc2 := (HS8.out.set_ i (-1)).cell hlt; have hf2 := (HS8.out.set_ i (-1)).frozen k; have HK8 := hide hk8; clear hap hk8; generalize (toI D2).getD i 0 = y1 at *; generalize ((toI D2).set i (-1)).getD k 0 = y2 at *)
              have hs5 := (HS8.out.set_ i (-1)).set_ k (-1)
              have hT5 : ((toI D2).set i (-1)).set k (-1) = toI D := by
                rw [← HUN.out, toI_set, toI_set]; rfl
              rw [hT5] at hs5
              have HS5 := hide hs5
              have HG5 := hide (gb_trans (HGE.out _ _ _ HAP.out) (gb_trans (gb_set (g := g) (i := i) (v := .int .i64 (-1))) (gb_set (g := g) (i := k) (v := .int .i64 (-1)))))
              have HV5 := hide (HAP.out.own.chg (gb_trans (gb_set (g := g) (i := i) (v := .int .i64 (-1))) (gb_set (g := g) (i := k) (v := .int .i64 (-1)))) hgl)
              have HR5 := hide ((((HR4.out.append HUR.out).keep HK8.out)).chg (gb_trans (gb_set (g := g) (i := i) (v := .int .i64 (-1))) (gb_set (g := g) (i := k) (v := .int .i64 (-1)))) hgl)
              have HPE : Hid ((ptT i (cmpQ n f D i) D (k + 1)).map toI = (ptT i (cmpQ n f D i) D k).map toI ++ (Tl.cmpF (Tl.bnd n) f D2).map toI) := hide (by rw [HPS.out, HQ2.out, List.map_append])
              rw [← HPE.out] at HR5
              clear hs5 hT5 HS8 HG4 HV4 HR4 HPE HPS HAP HK8 HKE HGE HU4 HUR hc1 hf1 hc2 hf2
              go_roundw
              case rel => exact ⟨k + 1, en + m2, c8, A8, vs ++ us, rfl, by go_num, by omega, by omega, HV5, HR5, HS5, HG5⟩
              case measure => simp [intOf]; omega
          · rw [if_neg hk0, List.append_nil] at hps
            obtain ⟨y, hy⟩ : ∃ y, (D.getD k 0 : Int) - 1 = y := ⟨_, rfl⟩
            rw [hy] at hcl
            have hy0 : (y != -1) = true := by rw [bne_iff_ne]; omega
            have HR2 : Hid (RowsI wr w.heap.size vs ((ptT i (cmpQ n f D i) D (k + 1)).map toI)) := hide (by rw [hps]; exact HR.out)
            clear hps hy hk0 HR
            go_wp2_with fail
            go_roundw
            case rel => exact ⟨k + 1, en, ec, E, vs, rfl, by go_num, by omega, by omega, HV, HR2, HO, HG⟩
            case measure => simp [intOf]; omega
        · have hkE : k = N := by omega
          have HR2 : Hid (RowsI wr w.heap.size vs ((ptT i (cmpQ n f D i) D N).map toI)) := hide (by rw [← hkE]; exact HR.out)
          clear hkE HR
          go_wp2_with fail
          go_ret
          exact ⟨E, en, ec, vs, rfl, HV.out, HR2.out, HO.out, HG.out⟩

set_option maxRecDepth 100000 in
set_option maxHeartbeats 4000000 in
theorem elements_p (m : Int) (w : World) (hm : (Lit.int .i64 m).wf = true) : Calls Try.prog 21 #[.int .i64 m] w (GivesTLL w (tlE m) (elL m)) := by
  have HS := hide (tisSize_any m w hm)
  by_cases h1 : 1 ≤ m ∧ m ≤ 6
  case neg =>
    have HE : Hid (tlE m = 1 ∧ elL m = []) := hide (by
      have e : tlE m = 1 := by unfold tlE; rw [if_pos (by omega)]
      exact ⟨e, by unfold elL; rw [e, if_neg (by omega)]⟩)
    rw [decide_eq_false h1] at HS
    rw [HE.out.1, HE.out.2]
    clear h1 hm HE
    go_enter Try.func21, Try.ntmps21
    go_wp2_with fail
    refine HS.out.mono ?_
    rintro e w1 ⟨rfl, hww⟩
    subst hww
    go_wp2_with fail
    go_ret2
    exact ⟨none, 0, 0, rfl, SLL.nil_ _, Below.refl _ _⟩
  obtain ⟨n, rfl⟩ : ∃ k : Nat, m = (k : Int) := ⟨m.toNat, by omega⟩
  rw [decide_eq_true h1] at HS
  obtain ⟨N, hN⟩ : ∃ N, 2 * n = N := ⟨_, rfl⟩
  have hw2 : IntKind.i64.wrap (2 * (n : Int)) = (N : Int) := by rw [IntKind.wrap_i64]; omega
  have hn1 : 1 ≤ n := by omega
  have hn6 : n ≤ 6 := by omega
  have HEL : Hid (elL n = ((Tl.plan n).map (List.map (· + 1))).map toI) := hide (by
    unfold elL
    rw [tlE_ok hn1 hn6, if_pos rfl, Int.toNat_natCast, List.map_map]
    exact List.map_congr_left fun x _ => (toI_succ x).symm)
  rw [tlE_ok hn1 hn6, HEL.out, ← cmp_plan hn1 hn6]
  have HN := hide hN
  have hN12 : N ≤ 12 := by omega
  have hN0 : 0 < N := by omega
  have HUN := hide (unconn_any N w hN0 (by omega))
  have hlen : (Tl.cmpF (Tl.bnd n) (n + 1) (List.replicate (2 * n) 0)).length < 1000 := by
    rw [cmp_plan hn1 hn6, List.length_map]
    obtain ⟨c1, c2, c3, c4, c5, c6⟩ := plan_len
    rcases (show n = 1 ∨ n = 2 ∨ n = 3 ∨ n = 4 ∨ n = 5 ∨ n = 6 by omega) with h | h | h | h | h | h <;> subst h <;> omega
  have HCM := hide (fun (g c : Nat) (w' : World) (h : OwnI w' 0 (some ⟨g, 0, none⟩) N c (toI (List.replicate (2 * n) 0))) => completions_any n N c g hN hn1 hn6 (n + 1) (List.replicate (2 * n) 0) w' (by rw [List.count_replicate_self]; omega) (fun x hx => by have := (List.mem_replicate.1 hx).2; omega) hlen h)
  have HT0 : Hid (toI (List.replicate (2 * n) 0) = List.replicate N (-1)) := hide (by unfold toI; rw [List.map_replicate, hN]; rfl)
  generalize Tl.cmpF (Tl.bnd n) (n + 1) (List.replicate (2 * n) 0) = xs at *
  clear hN h1 hm hlen HEL
  go_enter Try.func21, Try.ntmps21
  go_wp2_with fail
  refine HS.out.mono ?_
  rintro e w1 ⟨rfl, hww⟩
  subst hww
  clear HS
  go_wp2_with fail
  refine HUN.out.mono ?_
  rintro e w1 ⟨A, q, c, rfl, ho, hb⟩
  have hq : q = N := by have := ho.len; rw [List.length_replicate] at this; exact this.symm
  subst hq
  obtain ⟨g, rfl, hg1, hg2⟩ := ho.form hN0
  have HR := hide (HCM.out g c w1 (by rw [HT0.out]; exact ho.mono (Nat.zero_le _)))
  have HB := hide hb
  clear ho hb HUN HCM HT0
  go_wp2_with fail
  refine HR.out.mono ?_
  rintro e w2 ⟨E, en, ec, vs, rfl, hv, hr, _, hg⟩
  have HSL := hide (SLL.of_rows hv hr)
  have HB2 := hide (HB.out.grown hg HB.out.size (fun j hj => by rw [← Option.some.inj hj]; exact hg1))
  clear hv hr hg HR
  go_wp2_with fail
  go_ret2
  exact ⟨E, en, ec, rfl, HSL.out, HB2.out⟩

/-- Package temperleylieb answers as the document says. -/
theorem tlC : TlC := ⟨tcheck_any, fun m w hm => (ident_any m w hm).mono fun e w' ⟨A, n, c, h1, h2, h3⟩ => ⟨A, n, c, h1, h2.sl, h3⟩, gener_any, tproduct_any, tclosure_any, elements_p⟩
end Go.Proofs.Ythhcjnmlpojjeaa
